/- The walk of MuteMore. -/
import Derived.Test.YtfcjalojgmpnoaaMuteMoreMath
import Derived.Test.YtfcjalojgmpnoaaFacts
import Derived.Test.YtfcjalojgmpnoaaFresh
namespace Go.Proofs.Ytfcjalojgmpnoaa
open Go.ChangeShapes Go.WideShapes Go.ChangeAt Go.RowKit
set_option linter.unusedVariables false
set_option linter.unusedSimpArgs false
set_option maxRecDepth 100000
theorem rows_len_of {P : Program} {f : FuncId} {args : Array Value} {sets : List (List Lbl)} {w : World} (h : Calls P f args w (RowsAns sets w)) : Calls P f args w fun e w' => ∃ A c, e = .returned (.slice A sets.length c) ∧ Below w.heap.size w w' ∧ sets.length ≤ c ∧ c ≤ 9223372036854775807 := h.mono fun _ _ hh => rows_len hh
set_option maxHeartbeats 8000000 in
theorem mute_more (A0 : Option Addr) (n0 c0 : Nat) (z0 : List KSet) (A1 : Option Addr) (n1 c1 : Nat) (z1 : List Sil) (A2 : Option Addr) (n2 c2 : Nat) (z2 : List Inh) (t from_ tz : Int) (w : World)
    (h0 : AKSets w w.heap.size A0 z0) (l0 : z0.length = n0) (p0 : n0 ≤ c0) (q0 : c0 ≤ 9223372036854775807)
    (h1 : ASils w w.heap.size A1 z1) (l1 : z1.length = n1) (p1 : n1 ≤ c1) (q1 : c1 ≤ 9223372036854775807)
    (h2 : AInhs w w.heap.size A2 z2) (l2 : z2.length = n2) (p2 : n2 ≤ c2) (q2 : c2 ≤ 9223372036854775807) (ht : I64 t) (hf : I64 from_) (he : I64 tz) :
    Calls Try.prog 5 #[.slice A0 n0 c0, .slice A1 n1 c1, .slice A2 n2 c2, .int .i64 t, .int .i64 from_, .int .i64 tz] w fun e w' => e = .returned (.bool true) ∧ Below w.heap.size w w' := by
  obtain ⟨i0, hi0, hz0, hz1, hz2⟩ := info_parts Try.infoLbls
  obtain ⟨j0, hj0, jz0, jz1, jz2⟩ := info_parts Try.infoSil
  obtain ⟨K, hK⟩ : ∃ k, min n0 6 = k := ⟨_, rfl⟩
  obtain ⟨k1, hk1⟩ : ∃ k, min n1 4 = k := ⟨_, rfl⟩
  obtain ⟨k2, hk2⟩ : ∃ k, min n2 4 = k := ⟨_, rfl⟩
  have m1 : min (n1 : Int) 4 = (k1 : Int) := by omega
  have m2 : min (n2 : Int) 4 = (k2 : Int) := by omega
  have y1 : (k1 : Int) ≤ c1 := by omega
  have y2 : (k2 : Int) ≤ c2 := by omega
  have y3 : (0 : Int) ≤ k1 := by omega
  have y4 : (0 : Int) ≤ k2 := by omega
  have HZ := Lib.hid h0
  have HZL := Lib.hid l0
  have HT := Lib.hid (((Kept.start w).add ((by have h := h2.1; rw [l2] at h; exact h.take (k := k2) (by omega)) : InhsAt w A2 k2 (z2.take k2)).stays).add ((by have h := h1.1; rw [l1] at h; exact h.take (k := k1) (by omega)) : SilsAt w A1 k1 (z1.take k1)).stays)
  have HSL := Lib.hid (show (z1.take k1).length = k1 by rw [List.length_take]; omega)
  have hk14 : k1 ≤ 4 := by omega
  have hk24 : k2 ≤ 4 := by omega
  have hK6 : K ≤ 6 := by omega
  have hKn : K ≤ n0 := by omega
  have HK := Lib.hid hK
  generalize z1.take k1 = sa at *
  generalize z2.take k2 = ha at *
  clear h0 h1 h2 l0 l1 l2 hk1 hk2 hK
  go_enter Try.func5, Try.ntmps5
  go_upto_block 0 with fail
  go_cut [13, 14] from 25 to 42 (fun x13 x14 wx => ∃ (X : Option Addr) (cx : Nat) (rows : List (Value × List Lbl)), x13 = .slice X K cx ∧ rows.length = K ∧ SetsAt wx X K rows ∧ K ≤ cx ∧ cx ≤ 9223372036854775807 ∧ Below w.heap.size w wx ∧ setsOf rows = (z0.take K).map setF)
  case first =>
   go_wp2_with fail
   go_loopg [13, 14] K (fun g x13 x14 wr => ∃ (k : Nat) (X : Option Addr) (cx : Nat) (rows : List (Value × List Lbl)), k + g = K ∧ x14 = .int .i64 k ∧ x13 = .slice X k cx ∧ rows.length = k ∧ OwnRows w.heap.size (.slice X k cx) rows wr ∧ Below w.heap.size w wr ∧ setsOf rows = (z0.take k).map setF)
   case atStart => exact ⟨0, none, 0, [], by omega, rfl, rfl, rfl, OwnRows.nil _ _, Below.refl _ _, by simp [setsOf]⟩
   case round =>
     obtain ⟨k, X, cx, rows, hkg, rfl, rfl, hrl, hrow, hbel, hrs⟩ := hrel
     have HR := Lib.hid hrow; have HB := Lib.hid hbel; have HS := Lib.hid hrs; have HRL := Lib.hid hrl
     have hws := hbel.size
     clear hrow hbel hrs hrl
     cases gk with
     | succ g =>
       have hkl : k < z0.length := by rw [HZL.out]; omega
       have hk6 : k < 6 := by omega
       have hkn : k < n0 := by omega
       obtain ⟨ad, hAe, had, e0, e1, hok⟩ := (HZ.out.below HB.out) k hkl
       have hal := World.block_lt_of_cell? wr _ e0
       have HSN := Lib.hid (fun v => setsOf_take hkl HS.out v)
       have hl3 := setF_len z0[k]
       have HKS := Lib.hid (keepset_any z0[k] w.heap.size wr hok hws)
       subst hAe
       unfold KSet.val at HKS
       generalize setF z0[k] = l at *
       generalize z0[k].A = Aa at *
       generalize z0[k].n = na at *
       generalize z0[k].c = ca at *
       generalize z0[k].A2 = Ab at *
       generalize z0[k].n2 = nb at *
       generalize z0[k].c2 = cb at *
       clear hok HS
       go_wp2_with fail
       (with_reducible refine HKS.out.mono ?_); rintro e wq hcl
       obtain ⟨A5, c5, rfl, hol, hbq⟩ := ownL_of hcl
       have HRQ := Lib.hid (HR.out.below hbq)
       have HBQ := Lib.hid (HB.out.trans (hbq.mono hws))
       clear hcl hbq
       have HRW := Lib.hid (HRQ.out.below ((Below.refl _ wq).alloc (Nat.le_refl _) (.cells #[.slice A5 l.length c5] 24)))
       have HOL := Lib.hid (hol.below ((Below.refl _ wq).alloc (Nat.le_refl _) (.cells #[.slice A5 l.length c5] 24)))
       have HX := Lib.hid (show Sees (wq.alloc (.cells #[.slice A5 l.length c5] 24)) (wq.alloc (.cells #[.slice A5 l.length c5] 24)).heap.size 1 (some ⟨wq.heap.size, 0, none⟩) 1 [.slice A5 l.length c5] from (Blk.mk (heap_alloc_new wq _) : Blk _ wq.heap.size 24 [.slice A5 l.length c5]).sees rfl (List.prefix_refl _))
       have HBA := Lib.hid (HBQ.out.alloc HBQ.out.size (.cells #[.slice A5 l.length c5] 24))
       have hsq := HBQ.out.size
       have hbx : ∀ g, (Value.slice X k cx).ownBlock = some g → w.heap.size ≤ g := fun g hg => (HRW.out.own.lt g hg).1
       have HBX := Lib.hid hbx
       have HOW := Lib.hid (show (wq.alloc (.cells #[.slice A5 l.length c5] 24)).ownsRow w.heap.size 24 1 (.slice X k cx) k (rows.map Prod.fst) by have h := HRW.out.own; rwa [HRL.out] at h)
       clear hbx hol HR HRQ HBQ HKS
       go_wp2_with (at_builtin; refine wpList_append_at rfl (.tmp 35) (.tmp 41) 32 rfl w.heap.size 24 i0 (.slice none 0 0) 1 24 Try.underlying32 hi0 hz0 hz1 hz2 rfl (by decide) (.slice X k cx) k (rows.map Prod.fst) rfl HOW.out _ _ 1 1 [.slice A5 l.length c5] rfl HX.out (by intro u hu; rw [List.mem_singleton] at hu; subst hu; rfl) (by unfold maxLen; omega) (by omega) (by simp; omega) ?_)
       intro v3 w3 hown3 hgr3 hwh3
       obtain ⟨A6, c6, rfl, hc3, hc4⟩ := own_slice hown3
       have HRN := Lib.hid (HRW.out.push HOL.out (by rw [HRL.out]; exact hown3) hgr3)
       have HB3 := Lib.hid (HBA.out.grown hgr3 (by simp; omega) HBX.out)
       have HLN := Lib.hid (show (rows ++ [(Value.slice A5 l.length c5, l)]).length = k + 1 by rw [List.length_append, HRL.out]; rfl)
       have HSS := Lib.hid (HSN.out (.slice A5 l.length c5))
       clear hown3 hgr3 hwh3 HX HBA HBX HOW HRW HOL HSN
       generalize rows ++ [(Value.slice A5 l.length c5, l)] = rows2 at *
       go_wp2_with fail
       go_roundg g
       case measure => omega
       case rel => exact ⟨k + 1, A6, c6, rows2, by omega, by go_num, rfl, HLN.out, HRN.out, HB3.out, HSS.out⟩
     | zero =>
       obtain rfl : k = K := by omega
       have hss := HR.out.sets
       rw [HRL.out] at hss
       obtain ⟨X', cx', g1, g2, g3⟩ := own_slice HR.out.own
       rw [HRL.out] at g1 g2
       injection g1 with g1 _ g4; subst g1; subst g4
       have HSS := Lib.hid hss
       have hn0 := HK.out
       clear hss
       by_cases h6 : n0 ≤ 6
       · obtain rfl : n0 = k := by omega
         clear hn0
         go_wp2_with fail
         go_meet
         exact ⟨X, cx, rows, rfl, HRL.out, HSS.out, g2, g3, HB.out, HS.out⟩
       · obtain rfl : k = 6 := by omega
         have h7 : 6 < n0 := by omega
         clear hn0
         go_wp2_with fail
         go_meet
         exact ⟨X, cx, rows, rfl, HRL.out, HSS.out, g2, g3, HB.out, HS.out⟩
  case rest =>
    obtain ⟨X, cx, rows, rfl, hrl, hss, hc1, hc2, hbel, hrs⟩ := hcut
    have HG := Lib.hid (((HT.out.below hbel).add hss.stays))
    have HRL := Lib.hid hrl; have HRS := Lib.hid hrs
    clear hrl hss hbel hrs HT HZ HK
    go_upto_region 6 with fail
    refine wp_region_facts (R := fun a b => Below a.heap.size a b) (G := Kept w [fun W => SetsAt W X K rows, fun W => SilsAt W A1 k1 sa, fun W => InhsAt W A2 k2 ha]) (V := fun i' u' W => match i' with | 0 => u' = .slice A1 n1 c1 | 1 => u' = .slice A1 n1 c1 | 2 => u' = .int .i64 n1 | 3 => u' = .int .i64 k1 | 4 => u' = .slice A1 k1 c1 | 5 => u' = .slice A2 n2 c2 | 6 => u' = .slice A2 n2 c2 | 7 => u' = .int .i64 n2 | 8 => u' = .int .i64 k2 | 9 => u' = .slice A2 k2 c2 | 10 => u' = .slice A1 k1 c1 | 11 => u' = .slice A2 k2 c2 | _ => True) (by kernel_rfl) (fun w => Below.refl _ _) (fun a b c h1 h2 => h1.trans (h2.mono h1.size)) (by kernel_rfl) (by kernel_rfl) ?hG ⟨?o0, ?o1, ?o2, ?o3, ?o4, ?o5, ?o6, ?o7, ?o8, ?o9, ?o10, ?o11, trivial⟩ ?hend
    case o0 =>
      intro a w hfr hG hd
      refine ⟨fun hw => ?_, fun hw => absurd hw (by simp [Region.wanted])⟩
      have s1 : a.tmps.getD 1 undef = .slice A1 n1 c1 := hfr.at 1 (by kernel_rfl)
      refine op_yields (.slice A1 n1 c1) ?_ ?_ ?_
      · simp only [execOp, resolve, List.map_toArray, List.map_cons, List.map_nil, Act.eval, s1]; simp [go_sem, -Array.getD_eq_getD_getElem?, s1]
      · exact Below.refl _ _
      · exact (fun _ _ => rfl)
    case o1 =>
      intro a w hfr hG hd
      refine ⟨fun hw => ?_, fun hw => absurd hw (by simp [Region.wanted])⟩
      have s1 : a.tmps.getD 1 undef = .slice A1 n1 c1 := hfr.at 1 (by kernel_rfl)
      refine op_yields (.slice A1 n1 c1) ?_ ?_ ?_
      · simp only [execOp, resolve, List.map_toArray, List.map_cons, List.map_nil, Act.eval, s1]; simp [go_sem, -Array.getD_eq_getD_getElem?, s1]
      · exact Below.refl _ _
      · exact (fun _ _ => rfl)
    case o2 =>
      intro a w hfr hG hd
      obtain ⟨d0, _⟩ := hd
      refine ⟨fun hw => ?_, fun hw => absurd hw (by simp [Region.wanted])⟩
      have s44 : a.tmps.getD 44 undef = .slice A1 n1 c1 := (d0 rfl).now
      refine op_yields (.int .i64 n1) ?_ ?_ ?_
      · simp only [execOp, resolve, List.map_toArray, List.map_cons, List.map_nil, Act.eval, s44]; simp [go_sem, -Array.getD_eq_getD_getElem?, s44]
      · exact Below.refl _ _
      · exact (fun _ _ => rfl)
    case o3 =>
      intro a w hfr hG hd
      obtain ⟨d0, _⟩ := hd
      refine ⟨fun hw => ?_, fun hw => absurd hw (by simp [Region.wanted])⟩
      have s45 : a.tmps.getD 45 undef = .int .i64 n1 := (d0 rfl).now
      refine op_yields (.int .i64 k1) ?_ ?_ ?_
      · simp only [execOp, resolve, List.map_toArray, List.map_cons, List.map_nil, Act.eval, s45]; simp [go_sem, -Array.getD_eq_getD_getElem?, s45, m1]
      · exact Below.refl _ _
      · exact (fun _ _ => rfl)
    case o4 =>
      intro a w hfr hG hd
      obtain ⟨d0, d1, _⟩ := hd
      refine ⟨fun hw => ?_, fun hw => absurd hw (by simp [Region.wanted])⟩
      have s43 : a.tmps.getD 43 undef = .slice A1 n1 c1 := (d0 rfl).now
      have s46 : a.tmps.getD 46 undef = .int .i64 k1 := (d1 rfl).now
      refine op_yields (.slice A1 k1 c1) ?_ ?_ ?_
      · simp only [execOp, resolve, List.map_toArray, List.map_cons, List.map_nil, Act.eval, s43, s46]; simp [go_sem, -Array.getD_eq_getD_getElem?, s43, s46, y1, y3]
      · exact Below.refl _ _
      · exact (fun _ _ => rfl)
    case o5 =>
      intro a w hfr hG hd
      refine ⟨fun hw => ?_, fun hw => absurd hw (by simp [Region.wanted])⟩
      have s2 : a.tmps.getD 2 undef = .slice A2 n2 c2 := hfr.at 2 (by kernel_rfl)
      refine op_yields (.slice A2 n2 c2) ?_ ?_ ?_
      · simp only [execOp, resolve, List.map_toArray, List.map_cons, List.map_nil, Act.eval, s2]; simp [go_sem, -Array.getD_eq_getD_getElem?, s2]
      · exact Below.refl _ _
      · exact (fun _ _ => rfl)
    case o6 =>
      intro a w hfr hG hd
      refine ⟨fun hw => ?_, fun hw => absurd hw (by simp [Region.wanted])⟩
      have s2 : a.tmps.getD 2 undef = .slice A2 n2 c2 := hfr.at 2 (by kernel_rfl)
      refine op_yields (.slice A2 n2 c2) ?_ ?_ ?_
      · simp only [execOp, resolve, List.map_toArray, List.map_cons, List.map_nil, Act.eval, s2]; simp [go_sem, -Array.getD_eq_getD_getElem?, s2]
      · exact Below.refl _ _
      · exact (fun _ _ => rfl)
    case o7 =>
      intro a w hfr hG hd
      obtain ⟨d0, _⟩ := hd
      refine ⟨fun hw => ?_, fun hw => absurd hw (by simp [Region.wanted])⟩
      have s49 : a.tmps.getD 49 undef = .slice A2 n2 c2 := (d0 rfl).now
      refine op_yields (.int .i64 n2) ?_ ?_ ?_
      · simp only [execOp, resolve, List.map_toArray, List.map_cons, List.map_nil, Act.eval, s49]; simp [go_sem, -Array.getD_eq_getD_getElem?, s49]
      · exact Below.refl _ _
      · exact (fun _ _ => rfl)
    case o8 =>
      intro a w hfr hG hd
      obtain ⟨d0, _⟩ := hd
      refine ⟨fun hw => ?_, fun hw => absurd hw (by simp [Region.wanted])⟩
      have s50 : a.tmps.getD 50 undef = .int .i64 n2 := (d0 rfl).now
      refine op_yields (.int .i64 k2) ?_ ?_ ?_
      · simp only [execOp, resolve, List.map_toArray, List.map_cons, List.map_nil, Act.eval, s50]; simp [go_sem, -Array.getD_eq_getD_getElem?, s50, m2]
      · exact Below.refl _ _
      · exact (fun _ _ => rfl)
    case o9 =>
      intro a w hfr hG hd
      obtain ⟨d0, d1, _⟩ := hd
      refine ⟨fun hw => ?_, fun hw => absurd hw (by simp [Region.wanted])⟩
      have s48 : a.tmps.getD 48 undef = .slice A2 n2 c2 := (d0 rfl).now
      have s51 : a.tmps.getD 51 undef = .int .i64 k2 := (d1 rfl).now
      refine op_yields (.slice A2 k2 c2) ?_ ?_ ?_
      · simp only [execOp, resolve, List.map_toArray, List.map_cons, List.map_nil, Act.eval, s48, s51]; simp [go_sem, -Array.getD_eq_getD_getElem?, s48, s51, y2, y4]
      · exact Below.refl _ _
      · exact (fun _ _ => rfl)
    case o10 =>
      intro a w hfr hG hd
      obtain ⟨d0, d1, d2, d3, d4, d5, d6, d7, d8, d9, d10, _⟩ := hd
      refine ⟨fun hw => ?_, fun hw => absurd hw (by simp [Region.wanted])⟩
      have s47 : a.tmps.getD 47 undef = .slice A1 k1 c1 := (d0 rfl).now
      refine op_yields (.slice A1 k1 c1) ?_ ?_ ?_
      · simp only [execOp, resolve, List.map_toArray, List.map_cons, List.map_nil, Act.eval, s47]; simp [go_sem, -Array.getD_eq_getD_getElem?, s47]
      · exact Below.refl _ _
      · exact (fun _ _ => rfl)
    case o11 =>
      intro a w hfr hG hd
      obtain ⟨d0, d1, d2, d3, d4, d5, d6, d7, d8, d9, d10, d11, d12, _⟩ := hd
      refine ⟨fun hw => ?_, fun hw => absurd hw (by simp [Region.wanted])⟩
      have s52 : a.tmps.getD 52 undef = .slice A2 k2 c2 := (d0 rfl).now
      refine op_yields (.slice A2 k2 c2) ?_ ?_ ?_
      · simp only [execOp, resolve, List.map_toArray, List.map_cons, List.map_nil, Act.eval, s52]; simp [go_sem, -Array.getD_eq_getD_getElem?, s52]
      · exact Below.refl _ _
      · exact (fun _ _ => rfl)
    case hG => exact fun w' hb => HG.out.drew.below hb
    case hend =>
      intro vs w' hG hv
      obtain ⟨_, _, _, _, _, _, _, _, _, _, h10, h11, _⟩ := hv
      have e10 := h10.now
      have e11 := h11.now
      have HT := Lib.hid hG.now
      clear hG h10 h11 HG
      simp only [putAll, Act.put, e10, e11]
      go_wp2_with fail
      clear e10 e11
      have hin1 := nWithin_in from_ (lo := 0) (hi := 50) (by omega)
      have HWF := Lib.hid (fun V => within_any from_ 0 50 V hf (by omega) (by omega) (by omega))
      generalize nWithin from_ 0 50 = f at *
      have hin2 := nWithin_in tz (lo := f) (hi := 60) (by omega)
      have HWE := Lib.hid (fun V => within_any tz f 60 V he (by omega) (by omega) (by omega))
      generalize nWithin tz f 60 = ee at *
      have hin3 := nWithin_in t (lo := 0) (hi := 60) (by omega)
      have HWT := Lib.hid (fun V => within_any t 0 60 V ht (by omega) (by omega) (by omega))
      generalize nWithin t 0 60 = at_ at *
      (with_reducible refine (HWF.out _).mono ?_); rintro e wq ⟨rfl, rfl⟩
      go_wp2_with fail
      (with_reducible refine (HWE.out _).mono ?_); rintro e wq ⟨rfl, rfl⟩
      go_wp2_with fail
      (with_reducible refine (HWT.out _).mono ?_); rintro e wq ⟨rfl, rfl⟩
      clear HWF HWE HWT
      obtain ⟨W, hW⟩ : ∃ W, w' = W := ⟨_, rfl⟩
      rw [hW] at HT
      rw [hW]
      clear hW
      have HE := Lib.hid (World.ownsRow_made (base := W.heap.size) (e := 31) (size := 3) W #[] 0 (Nat.le_refl _) (by unfold maxLen; omega) rfl)
      have HBE := Lib.hid ((Below.refl W.heap.size W).alloc (Nat.le_refl _) (.cells #[] 31))
      have HSA := Lib.hid ((HT.out.below HBE.out).p1.row)
      have hone : ∀ u ∈ tri (sa.map Sil.cells), u.oneCell' = true := tri_one fun x hx => by
        obtain ⟨s, hs, rfl⟩ := List.mem_map.1 hx
        obtain ⟨A, c, e⟩ := (HT.out.p1.ms s hs).form
        exact ⟨by show s.v.oneCell' = true; rw [e]; rfl, rfl, rfl⟩
      have HON := Lib.hid hone
      clear hone
      go_wp2_with (at_builtin; refine wpList_append_sees rfl (.tmp 60) (.tmp 61) 36 rfl W.heap.size 31 j0 (.agg #[.slice none 0 0, .int .i64 0, .int .i64 0]) 3 40 Try.underlying36 hj0 jz0 jz1 jz2 rfl (by decide) (.slice (some ⟨W.heap.size, 0, none⟩) 0 0) 0 [] rfl HE.out _ A1 k1 c1 (tri (sa.map Sil.cells)) rfl HSA.out HON.out (by unfold maxLen; omega) (by omega) (by simp) ?_)
      intro v3 w3 hown3 hgr3
      obtain ⟨A3, c3, rfl, hc3, hc4⟩ := own_slice hown3
      have HB3 := Lib.hid (HBE.out.grown hgr3 (by simp) (by simp [Value.ownBlock]))
      try rw [List.nil_append, Nat.zero_add] at hown3
      have HB4 := Lib.hid (HB3.out.alloc HB3.out.size (.cells #[.slice none 0 0, .int .i64 f, .int .i64 ee] 31))
      have HO3 := Lib.hid (hown3.alloc (.cells #[.slice none 0 0, .int .i64 f, .int .i64 ee] 31))
      have HX := Lib.hid (show Sees (w3.alloc (.cells #[.slice none 0 0, .int .i64 f, .int .i64 ee] 31)) (w3.alloc (.cells #[.slice none 0 0, .int .i64 f, .int .i64 ee] 31)).heap.size 3 (some ⟨w3.heap.size, 0, none⟩) 1 (tri [(.slice none 0 0, .int .i64 f, .int .i64 ee)]) from (Blk.mk (heap_alloc_new w3 _) : Blk _ w3.heap.size 31 [.slice none 0 0, .int .i64 f, .int .i64 ee]).sees rfl (List.prefix_refl _))
      have hbx : ∀ g, (Value.slice A3 k1 c3).ownBlock = some g → W.heap.size ≤ g := fun g hg => (HO3.out.lt g hg).1
      have HBX := Lib.hid hbx
      have hs3 := HB3.out.size
      clear hown3 hgr3 hbx HE HBE HSA HB3
      go_wp2_with (at_builtin; refine wpList_append_sees rfl (.tmp 62) (.tmp 66) 36 rfl W.heap.size 31 j0 (.agg #[.slice none 0 0, .int .i64 0, .int .i64 0]) 3 40 Try.underlying36 hj0 jz0 jz1 jz2 rfl (by decide) (.slice A3 k1 c3) k1 (tri (sa.map Sil.cells)) rfl HO3.out _ _ 1 1 (tri [(.slice none 0 0, .int .i64 f, .int .i64 ee)]) rfl HX.out (tri_one (by intro x hx; rw [List.mem_singleton] at hx; subst hx; exact ⟨rfl, rfl, rfl⟩)) (by unfold maxLen; omega) (by omega) (by simp; omega) ?_)
      intro v9 w9 hown9 hgr9
      obtain ⟨A9, c9, rfl, hc5, hc6⟩ := own_slice hown9
      have HB9 := Lib.hid (HB4.out.grown hgr9 (by simp; omega) HBX.out)
      rw [← tri_append, show sa.map Sil.cells ++ [((.slice none 0 0 : Value), (.int .i64 f : Value), (.int .i64 ee : Value))] = (sa ++ [(⟨.slice none 0 0, [], f, ee⟩ : Sil)]).map Sil.cells by simp [Sil.cells]] at hown9
      have HSN := Lib.hid (sils_own hown9 (fun x hx => by
        rcases List.mem_append.1 hx with hx | hx
        · exact ((HT.out.below HB9.out).p1.ms x hx)
        · rw [List.mem_singleton] at hx; subst hx
          exact ⟨none, 0, rfl, Sees.nil, Nat.le_refl _, by omega⟩))
      have HT2 := Lib.hid ((HT.out.below HB9.out).add HSN.out.stays)
      clear hown9 hgr9 HB9 HSN HB4 HO3 HX HBX HT HON
      have hsz := sizes_of HRS.out
      have HA := Lib.hid (fun V (h : Kept w [fun W => SilsAt W A9 (k1 + 1) (sa ++ [(⟨.slice none 0 0, [], f, ee⟩ : Sil)]), fun W => SetsAt W X K rows, fun W => SilsAt W A1 k1 sa, fun W => InhsAt W A2 k2 ha] V) => rows_len_of (heard_any X K cx rows at_ A1 k1 c1 sa A2 k2 c2 ha V h.p1 h.p2 h.p3 (by omega) (by omega) (by omega) hsz))
      have HBC := Lib.hid (fun V (h : Kept w [fun W => SilsAt W A9 (k1 + 1) (sa ++ [(⟨.slice none 0 0, [], f, ee⟩ : Sil)]), fun W => SetsAt W X K rows, fun W => SilsAt W A1 k1 sa, fun W => InhsAt W A2 k2 ha] V) => rows_len_of (heard_any X K cx rows at_ A9 (k1 + 1) c9 (sa ++ [(⟨.slice none 0 0, [], f, ee⟩ : Sil)]) A2 k2 c2 ha V h.p1 h.p0 h.p3 (by omega) (by omega) (by omega) hsz))
      have HC := Lib.hid (fun V (h : Kept w [fun W => SilsAt W A9 (k1 + 1) (sa ++ [(⟨.slice none 0 0, [], f, ee⟩ : Sil)]), fun W => SetsAt W X K rows, fun W => SilsAt W A1 k1 sa, fun W => InhsAt W A2 k2 ha] V) => rows_len_of (heard_any X K cx rows at_ none 0 0 [] none 0 0 [] V h.p1 SilsAt.nil InhsAt.nil (by omega) (by omega) (by omega) hsz))
      have HD := Lib.hid (fun V (h : Kept w [fun W => SilsAt W A9 (k1 + 1) (sa ++ [(⟨.slice none 0 0, [], f, ee⟩ : Sil)]), fun W => SetsAt W X K rows, fun W => SilsAt W A1 k1 sa, fun W => InhsAt W A2 k2 ha] V) => rows_len_of (heard_any X K cx rows at_ A1 k1 c1 sa none 0 0 [] V h.p1 h.p2 InhsAt.nil (by omega) (by omega) (by omega) hsz))
      have hfew := heardF_fewer (setsOf rows) at_ sa ha
      have HIN := Lib.hid (fun (h1 : f ≤ at_) (h2 : at_ < ee) => congrArg List.length (heardF_in (all := setsOf rows) (ss := sa) (hs := ha) (v := .slice none 0 0) h1 h2))
      have HOUT := Lib.hid (fun (h : ¬ f ≤ at_ ∨ ¬ at_ < ee) => congrArg List.length (heardF_out (all := setsOf rows) (ss := sa) (hs := ha) (v := .slice none 0 0) h))
      have hnone : (heardF (setsOf rows) at_ [] []).length = K := by rw [heardF_none, setsOf, List.length_map, HRL.out]
      rw [hnone] at HC
      clear hnone hsz
      generalize (heardF (setsOf rows) at_ sa ha).length = na at *
      generalize (heardF (setsOf rows) at_ (sa ++ [(⟨.slice none 0 0, [], f, ee⟩ : Sil)]) ha).length = nb at *
      generalize (heardF (setsOf rows) at_ sa []).length = nd at *
      go_wp2_with fail
      (with_reducible refine (HA.out _ HT2.out).mono ?_); rintro e wq ⟨Aa, ca, rfl, hbq, ha1, ha2⟩
      have HT2_n := Lib.hid (HT2.out.below hbq); clear HT2; have HT2 := HT2_n; clear HT2_n
      clear hbq
      go_wp2_with fail
      (with_reducible refine (HBC.out _ HT2.out).mono ?_); rintro e wq ⟨Ab, cb, rfl, hbq, hb1, hb2⟩
      have HT2_n := Lib.hid (HT2.out.below hbq); clear HT2; have HT2 := HT2_n; clear HT2_n
      clear hbq
      go_wp2_with fail
      (with_reducible refine (HC.out _ HT2.out).mono ?_); rintro e wq ⟨Ac, cc, rfl, hbq, hc7, hc8⟩
      have HT2_n := Lib.hid (HT2.out.below hbq); clear HT2; have HT2 := HT2_n; clear HT2_n
      clear hbq HA HBC HC
      go_upto_region 12 with fail
      have hnb : nb ≤ na := by
        by_cases h1 : f ≤ at_
        · by_cases h2 : at_ < ee
          · have := HIN.out h1 h2; simp at this; omega
          · have := HOUT.out (by omega); omega
        · have := HOUT.out (by omega); omega
      go_cut [102] (fun x102 wx => x102 = .bool false ∧ Kept w [fun W => SilsAt W A9 (k1 + 1) (sa ++ [(⟨.slice none 0 0, [], f, ee⟩ : Sil)]), fun W => SetsAt W X K rows, fun W => SilsAt W A1 k1 sa, fun W => InhsAt W A2 k2 ha] wx)
      case first =>
        have u1 : ¬ na < nb := by omega
        have u2 : ¬ nd < na := by omega
        have u3 : nb ≤ na := hnb
        clear HIN HOUT
        go_wp2_with fail
        (with_reducible refine (HD.out _ HT2.out).mono ?_); rintro e wq ⟨Ad, cd, rfl, hbq, hd1, hd2⟩
        have HT2_n := Lib.hid (HT2.out.below hbq); clear HT2; have HT2 := HT2_n; clear HT2_n
        clear hbq
        go_wp2_with fail
        go_meet
        exact ⟨rfl, HT2.out⟩
      case rest =>
        obtain ⟨rfl, hkept⟩ := hcut
        have HT := Lib.hid hkept
        clear hkept HT2 HD hfew
        go_upto_region 14 with fail
        go_cut [132] (fun x132 wx => x132 = .bool false ∧ Kept w [fun W => SilsAt W A9 (k1 + 1) (sa ++ [(⟨.slice none 0 0, [], f, ee⟩ : Sil)]), fun W => SetsAt W X K rows, fun W => SilsAt W A1 k1 sa, fun W => InhsAt W A2 k2 ha] wx)
        case first =>
          by_cases h1 : f ≤ at_
          · by_cases h2 : at_ < ee
            · have h3 := HIN.out h1 h2
              simp only [List.length_nil] at h3
              subst h3
              have v1 : ¬ at_ < f := by omega
              have v2 : ¬ ee ≤ at_ := by omega
              clear HIN HOUT hnb
              go_wp2_with fail
              go_meet
              exact ⟨rfl, HT.out⟩
            · have h3 := HOUT.out (by omega)
              subst h3
              have v1 : ¬ at_ < f := by omega
              have v2 : ee ≤ at_ := by omega
              clear HIN HOUT hnb
              go_wp2_with fail
              go_meet
              exact ⟨rfl, HT.out⟩
          · have h3 := HOUT.out (by omega)
            subst h3
            have v1 : at_ < f := by omega
            clear HIN HOUT hnb
            go_wp2_with fail
            go_meet
            exact ⟨rfl, HT.out⟩
        case rest =>
          obtain ⟨rfl, hkept⟩ := hcut
          have HT2 := Lib.hid hkept
          clear hkept HT HIN HOUT hnb
          go_wp2_with fail
          go_loopg [24, 135] K (fun g x24 x135 wr => ∃ k : Nat, k + g = K ∧ x135 = .int .i64 k ∧ Kept w [fun W => SilsAt W A9 (k1 + 1) (sa ++ [(⟨.slice none 0 0, [], f, ee⟩ : Sil)]), fun W => SetsAt W X K rows, fun W => SilsAt W A1 k1 sa, fun W => InhsAt W A2 k2 ha] wr)
          case atStart => exact ⟨0, by omega, rfl, HT2.out⟩
          case round =>
            obtain ⟨k, hkg, rfl, hkept⟩ := hrel
            have HTR := Lib.hid hkept
            clear hkept HT2
            cases gk with
            | succ g =>
              have hkr : k < rows.length := by rw [HRL.out]; omega
              have hkK : k < K := by omega
              have hY : (if cx = k then X else X.map (·.add (k * 1))) = X.map (·.add k) := by rw [if_neg (by omega), Nat.mul_one]
              have HIH := Lib.hid (fun V (h : Kept w [fun W => SilsAt W A9 (k1 + 1) (sa ++ [(⟨.slice none 0 0, [], f, ee⟩ : Sil)]), fun W => SetsAt W X K rows, fun W => SilsAt W A1 k1 sa, fun W => InhsAt W A2 k2 ha] V) => inhibited_alone (Y := X.map (·.add k)) (c := cx - k) (x := rows[k]) (A2 := A2) (n2 := k2) (c2 := c2) (hs := ha) (w := V) (hY ▸ h.p1.one hkK hc1 hkr) h.p3 (by omega))
              generalize rows[k] = rk at *
              clear hY
              have z1 : (k : Int) < cx := by omega
              have z2 : (0 : Int) ≤ k := by omega
              have z3 : (k : Int) + 1 ≤ cx := by omega
              have z4 : (k : Int) ≤ (k : Int) + 1 := by omega
              have z5 : ¬ cx = k := by omega
              go_wp2_with fail
              (with_reducible refine (HIH.out _ HTR.out).mono ?_); rintro e wq ⟨rfl, hbq⟩
              have HTR_n := Lib.hid (HTR.out.below hbq); clear HTR hbq; have HTR := HTR_n; clear HTR_n
              go_wp2_with fail
              go_roundg g
              case measure => omega
              case rel => exact ⟨k + 1, by omega, by go_num, HTR.out⟩
            | zero =>
              obtain rfl : k = K := by omega
              go_wp2_with fail
              (with_reducible refine (mute_runs _).mono ?_); rintro e wq ⟨rfl, hbq⟩
              have HTR_n := Lib.hid (HTR.out.below hbq); clear HTR hbq; have HTR := HTR_n; clear HTR_n
              go_wp2_with fail
              go_ret
              exact ⟨rfl, HTR.out.bel⟩
end Go.Proofs.Ytfcjalojgmpnoaa
