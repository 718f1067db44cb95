/- klaxonref7.Group. -/
import Derived.Test.YtbndmmfpoljeaaaRef7d
import Derived.Test.YtbndmmfpoljeaaaBase3
import Derived.Deep.CutBlock
import Derived.Deep.DeepCutAuto
namespace Go.Proofs.Ytbndmmfpoljeaaa
open Go.ChangeShapes Go.WideShapes Go.ChangeAt Go.RowKit
set_option linter.unusedVariables false
set_option linter.unusedSimpArgs false
set_option maxRecDepth 100000
/-- Where Group stands: its groups so far, the point at hand in its box. -/
structure GpAt (w0 : World) (v : Value) (rows : List PtR) (k : Nat) (gs : List Pt) (bx : Nat) (sv : Value) (l : List Lbl) (val : Int) (W : World) : Prop where
  out : OutAt w0.heap.size v rows k gs W
  box : Blk W bx 28 [sv, .int .i64 val]
  pl : HasL W sv l
  bel : Below w0.heap.size w0 W
theorem GpAt.below {w0 W W' : World} {v : Value} {rows : List PtR} {k bx : Nat} {gs : List Pt} {sv : Value} {l : List Lbl} {val : Int} (h : GpAt w0 v rows k gs bx sv l val W) (hb : Below W.heap.size W W') : GpAt w0 v rows k gs bx sv l val W' := ⟨h.out.below hb, h.box.below hb h.box.lt, h.pl.below hb, h.bel.trans (hb.mono h.bel.size)⟩
theorem keepL_snoc {ns : List ByteArray} {l : List Lbl} {j : Nat} (h : j < l.length) (x : Lbl) (e : l[j] = x) : keepL ns (l.take (j + 1)) = keepL ns (l.take j) ++ (if hasS ns x.1 = true then [x] else []) := by
  unfold keepL
  rw [List.take_succ_eq_append_getElem h, List.filter_append, e]
  by_cases hh : hasS ns x.1 = true <;> simp [hh]
theorem hasS_snoc {ns : List ByteArray} {q : Nat} (h : q < ns.length) (a : ByteArray) : hasS (ns.take (q + 1)) a = (hasS (ns.take q) a || decide (ns[q] = a)) := by
  unfold hasS
  rw [List.take_succ_eq_append_getElem h, List.any_append]; simp
/-- Groups have each its own text. -/
theorem txtG_nodup (kd : Int) (ns : List ByteArray) (ps : List Pt) : (txtG (groupF kd ns ps).1).Nodup := by
  have key : ∀ (l : List Pt) (s : List Pt × Int), (txtG s.1).Nodup → (txtG (l.foldl (stepG kd ns) s).1).Nodup := by
    intro l
    induction l with
    | nil => intro s h; exact h
    | cons p l ih =>
      intro s h
      rw [List.foldl_cons]
      refine ih _ ?_
      obtain ⟨gs, er⟩ := s
      by_cases he : er = 0
      · subst he
        cases e : idxG (txtG gs) (printL (keepL ns p.1)) with
        | none =>
          rw [stepG_none e]
          simp only at h ⊢
          unfold txtG at h e ⊢
          rw [List.map_append, List.map_singleton, List.nodup_append]
          rw [idxG_none] at e
          exact ⟨h, by simp, fun a ha b hb => by rw [List.mem_singleton] at hb; subst hb; intro e2; subst e2; exact e ha⟩
        | some i =>
          have hi := (idxG_some e).1
          have hi2 : i < gs.length := by simpa [txtG] using hi
          rw [stepG_some e (List.getElem?_eq_getElem hi2)]
          split
          · show (txtG (gs.set i _)).Nodup
            rw [txtG_set (List.getElem?_eq_getElem hi2)]; exact h
          · simp [txtG]
      · unfold stepG; rw [if_pos he]; exact h
  exact key ps ([], 0) (by simp [txtG])
theorem last_next {ks : List (List UInt8)} {t u : List UInt8} {i : Nat} (hd : ks.Nodup) (h : ks[i]? = some u) : (u = t → idxG (ks.take (i + 1)) t = some i) ∧ (u ≠ t → idxG (ks.take (i + 1)) t = idxG (ks.take i) t) := by
  obtain ⟨hi, e⟩ := List.getElem?_eq_some_iff.1 h
  rw [List.take_succ_eq_append_getElem hi, idxG_append, e]
  have hl : (ks.take i).length = i := by rw [List.length_take]; omega
  refine ⟨fun h2 => ?_, fun h2 => ?_⟩
  · subst h2
    cases e2 : idxG (ks.take i) u with
    | none => simp [hl]
    | some q =>
      obtain ⟨h3, h4⟩ := idxG_some e2
      rw [hl] at h3
      rw [List.getElem?_take, if_pos h3] at h4
      have := (List.getElem?_inj (by omega) hd).1 (h4.trans h.symm)
      omega
  · cases idxG (ks.take i) t <;> simp [h2]
theorem gather_er {kd a b : Int} (h1 : 17 ≤ kd) (h2 : kd ≤ 20) : (gatherF kd a b).2 = 0 ∨ (kd = 17 ∧ (gatherF kd a b).2 = 3 ∧ nB (a + b) = false) := by
  unfold gatherF
  by_cases k1 : kd = 17
  · rw [if_pos k1]
    by_cases hi : I64 (a + b)
    · exact .inl (nE_in hi)
    · exact .inr ⟨k1, nE_out hi, nB_out hi⟩
  · rw [if_neg k1]
    refine .inl ?_
    repeat' split
    all_goals first | rfl | omega
set_option maxHeartbeats 8000000 in
theorem group_r (b1 : Nat) (A AN : Option Addr) (c nn cn : Nat) (ra : List PtR) (ns : List ByteArray) (kd : Int) (w0 : World) (h : PtsAt b1 (.slice A ra.length c) ra w0) (hns : Sees w0 w0.heap.size 1 AN nn (strs ns)) (hnn : nn ≤ 9223372036854775807) (hn : ra.length ≤ 1000) (hs : SetsOk ra) (hv : ∀ x ∈ ra, I64 x.val) (h1 : 17 ≤ kd) (h2 : kd ≤ 20) :
    Calls Try.prog 22 #[.int .i64 kd, .slice AN nn cn, .slice A ra.length c] w0 (PtsAnsE (groupR kd ns (ptsOf ra)) w0) := by
  obtain ⟨i0, hi, hz0, hz1, hz2⟩ := info_parts Try.infoPt
  have HI := Lib.hid hi; have HZ0 := Lib.hid hz0; have HZ1 := Lib.hid hz1; have HZ2 := Lib.hid hz2
  obtain ⟨j0, hj0, hy0, hy1, hy2⟩ := info_parts Try.infoLabel
  have HJ := Lib.hid hj0; have HY0 := Lib.hid hy0; have HY1 := Lib.hid hy1; have HY2 := Lib.hid hy2
  clear hi hz0 hz1 hz2 hj0 hy0 hy1 hy2
  have H := Lib.hid (fun (V : World) (hV : Below w0.heap.size w0 V) => h.below hV)
  have HNS := Lib.hid (fun (V : World) (hV : Below w0.heap.size w0 V) => hns.below hV)
  have HNL := Lib.hid hns.str_len
  have HS := Lib.hid hs; have HV := Lib.hid hv; have HKD := Lib.hid (And.intro h1 h2)
  have HAN := Lib.hid (groupF_next kd ns ra)
  have HHI := Lib.hid (groupF_hit kd ns ra)
  have HND := Lib.hid (fun k => txtG_nodup kd ns (ptsOf (ra.take k)))
  have HRS : Hid (groupR kd ns (ptsOf ra) = if (groupF kd ns (ptsOf ra)).2 = 0 then (sortP (groupF kd ns (ptsOf ra)).1, 0) else ([], (groupF kd ns (ptsOf ra)).2)) := Lib.hid rfl
  clear h hs hv hns h1 h2
  obtain ⟨N, hN⟩ : ∃ N, ra.length = N := ⟨_, rfl⟩
  have HN := Lib.hid hN
  rw [hN] at H hn ⊢
  rw [← hN] at H
  clear hN
  go_enter Try.func22, Try.ntmps22
  go_wp2_with fail
  go_loopg [8, 25] N (fun g x8 x25 wr => ∃ (k : Nat) (X : Option Addr) (cx : Nat) (rows : List PtR) (gs : List Pt), k + g = N ∧ x25 = .int .i64 k ∧ x8 = .slice X rows.length cx ∧ OutAt w0.heap.size (.slice X rows.length cx) rows k gs wr ∧ SetsOk rows ∧ groupF kd ns (ptsOf (ra.take k)) = (gs, 0) ∧ (∀ p ∈ gs, I64 p.2 ∧ (kd = 20 → p.2 ≤ k)) ∧ Below w0.heap.size w0 wr)
  case atStart => exact ⟨0, none, 0, [], [], by omega, rfl, rfl, OutAt.nil _ _, (fun p hp => absurd hp List.not_mem_nil), rfl, (fun p hp => absurd hp List.not_mem_nil), Below.refl _ _⟩
  case round =>
    obtain ⟨k, X, cx, rows, gs, hkg, rfl, rfl, ho, hso, her, hvs, hbel⟩ := hrel
    have HVS := Lib.hid hvs
    have HO := Lib.hid ho; have HBE := Lib.hid hbel; have HER := Lib.hid her; have HSO := Lib.hid hso; have HKG := Lib.hid hkg
    have HBW := hbel
    clear ho hbel her hvs hso
    cases gk with
    | zero => --done
      obtain rfl : k = N := by omega
      have HC := Lib.hid (sorted_r w0.heap.size X rows.length cx rows wr HO.out.at_ rfl (by have := HO.out.len; omega) HSO.out)
      have HF : Hid (groupR kd ns (ptsOf ra) = (sortP (ptsOf rows), 0)) := Lib.hid (by
        have e2 := HER.out
        rw [List.take_of_length_le (by rw [HN.out]; exact Nat.le_refl _)] at e2
        rw [HRS.out, e2, if_pos rfl, HO.out.eq])
      clear HO HBW HER HVS HSO
      go_wp2_with fail
      (with_reducible refine HC.out.mono ?_); rintro e w9 ⟨Y, cy, ry, h1, rfl, h3, h4, h5, h6⟩
      have HG : Hid (PtsAnsE (groupR kd ns (ptsOf ra)) w0 (.returned (.tuple #[.slice Y ry.length cy, .int .i64 0])) w9) := Lib.hid (.ok HF.out h1 h3 HBE.out.size (HBE.out.trans (h4.mono HBE.out.size)) ⟨h5, h6⟩)
      clear h1 h3 h4 h5 h6 HC HF
      go_wp2_with fail
      go_ret2
      exact HG.out
    | succ g =>
      have hlt : k < ra.length := by have := HN.out; omega
      have HR := H.out wr HBW
      obtain ⟨ad, hA, e0, e1, hu9⟩ := pt_get HR hlt
      clear hu9
      have hol := HR.each ra[k] (List.getElem_mem hlt)
      obtain ⟨hl, hlx⟩ := HS.out ra[k] (List.getElem_mem hlt)
      have HNX := Lib.hid (HAN.out k hlt)
      subst hA
      have hi64 := HV.out ra[k] (List.getElem_mem hlt)
      have HLT := Lib.hid hlt
      generalize ra[k] = q at *
      obtain ⟨sv, l, val⟩ := q
      simp only at e0 e1 hol hl hlx hi64
      obtain ⟨A2, c2, hsv, hss, hu8, hu9⟩ := hol.hasL
      clear hu8 hu9
      subst hsv
      obtain ⟨sl, hsl⟩ : ∃ n, l.length = n := ⟨_, rfl⟩
      have HSE := Lib.hid hsl
      have HHL := Lib.hid hol.hasL
      rw [hsl] at e0 hss hl hol HHL
      have ha := (Below.refl wr.heap.size wr).alloc (Nat.le_refl _) (.cells #[.slice A2 sl c2, .int .i64 val] 28)
      have HI64 := Lib.hid hi64
      have HKK : Hid ((keepL ns l).length ≤ 1000 ∧ ∀ x ∈ keepL ns l, x.1.size ≤ 9223372036854775807) := Lib.hid ⟨by have := List.length_filter_le (fun x => hasS ns x.1) l; unfold keepL; omega, fun x hx => hlx x (List.mem_filter.1 hx).1⟩
      have HQ := Lib.hid (show GpAt w0 (.slice X rows.length cx) rows k gs wr.heap.size (.slice A2 sl c2) l val (wr.alloc (.cells #[.slice A2 sl c2, .int .i64 val] 28)) from ⟨HO.out.below ha, Blk.mk (heap_alloc_new wr (.cells #[.slice A2 sl c2, .int .i64 val] 28)), HHL.out.below ha, HBE.out.trans (ha.mono HBE.out.size)⟩)
      have HSS := Lib.hid ((hss.below ha).more ha.size)
      clear hss hol ha HO HBE HR HBW hsl hi64 HHL hlx
      obtain ⟨rn, hrn⟩ : ∃ n, rows.length = n := ⟨_, rfl⟩
      have HRN := Lib.hid hrn
      rw [hrn] at HQ ⊢
      clear hrn
      go_upto_region 6 with fail
      obtain ⟨bx, hbx⟩ : ∃ b, wr.heap.size = b := ⟨_, rfl⟩
      rw [hbx] at HQ
      rw [hbx]
      clear hbx e0 e1
      generalize wr.alloc (.cells #[.slice A2 sl c2, .int .i64 val] 28) = W2 at *
      have z0 := HQ.out.box.cell 0
      simp only [List.getElem?_cons_zero] at z0
      go_upto_block 2 with fail
      clear z0
      have HKL := Lib.hid (show True from trivial)
      go_cut [11, 13, 14, 16] from 26 to 55 (fun x11 x13 x14 x16 wx => ∃ (S : Option Addr) (sn c3 : Nat), x11 = .slice S sn c3 ∧ (keepL ns l).length = sn ∧ wx.ownsRow W2.heap.size 53 2 (.slice S sn c3) sn (lbls (keepL ns l)) ∧ Below W2.heap.size W2 wx)
      case first => --done
        go_wp2_with fail
        go_loopg [11, 32] sl (fun g x11 x32 wq => ∃ (j : Nat) (S : Option Addr) (m c3 : Nat), j + g = sl ∧ x32 = .int .i64 j ∧ x11 = .slice S m c3 ∧ (keepL ns (l.take j)).length = m ∧ wq.ownsRow W2.heap.size 53 2 (.slice S m c3) m (lbls (keepL ns (l.take j))) ∧ Below W2.heap.size W2 wq)
        case atStart => exact ⟨0, none, 0, 0, by omega, rfl, rfl, rfl, World.ownsRow_nil _ _ _ _, Below.refl _ _⟩
        case round =>
          obtain ⟨j, S, m, c3, hjg, rfl, rfl, hml, hown, hb2⟩ := hrel
          have HJG := Lib.hid hjg; have HML := Lib.hid hml; have HOW := Lib.hid hown; have HB2 := Lib.hid hb2
          have hws := hb2.size
          clear hml hown hb2
          cases gk with
          | zero =>
            obtain rfl : j = sl := by omega
            have HE : Hid (l.take j = l) := Lib.hid (List.take_of_length_le (by rw [HSE.out]; exact Nat.le_refl _))
            go_wp2_with fail
            go_meet
            refine ⟨S, m, c3, rfl, ?_, ?_, HB2.out⟩
            · have h := HML.out; rw [HE.out] at h; exact h
            · have h := HOW.out; rw [HE.out] at h; exact h
          | succ g2 =>
            have hjl : j < sl := by omega
            obtain ⟨ad2, hjl2, rfl, c0, c1⟩ := (HSS.out.below (HB2.out)).lbl hjl
            have hal := World.block_lt_of_cell? wr _ c0
            have HSN := Lib.hid (keepL_snoc (ns := ns) hjl2 l[j] rfl)
            have HXE := Lib.hid (show l[j].1.size ≤ 9223372036854775807 ∨ True from .inr trivial)
            generalize l[j] = p at *
            obtain ⟨a, b⟩ := p
            simp only at c0 c1 HSN
            go_upto_region 9 with fail
            obtain ⟨bl, hbl⟩ : ∃ b, wr.heap.size = b := ⟨_, rfl⟩
            obtain ⟨W3, hW3⟩ : ∃ W, wr.alloc (.cells #[.string a, .string b] 53) = W := ⟨_, rfl⟩
            have HX3 := Lib.hid (show Blk W3 bl 53 [.string a, .string b] by rw [← hW3, ← hbl]; exact Blk.mk (heap_alloc_new wr _))
            have HO3 := Lib.hid (show W3.ownsRow W2.heap.size 53 2 (.slice S m c3) m (lbls (keepL ns (l.take j))) by rw [← hW3]; exact HOW.out.alloc _)
            have HB3 := Lib.hid (show Below W2.heap.size W2 W3 by rw [← hW3]; exact HB2.out.alloc hws _)
            rw [hbl, hW3]
            clear hbl hW3 HOW HB2 hws c0 c1 hal
            have HNW := Lib.hid ((HNS.out W3 (HQ.out.bel.trans (HB3.out.mono HQ.out.bel.size))))
            go_upto_block 4 with fail
            go_cut [14, 16] from 33 to 49 (fun x14 x16 wx => x14 = .bool (hasS ns a) ∧ wx = W3)
            case first =>
              go_wp2_with fail
              go_loopg [14, 38] nn (fun g x14 x38 wz => ∃ q : Nat, q + g = nn ∧ x38 = .int .i64 q ∧ x14 = .bool (hasS (ns.take q) a) ∧ wz = W3)
              case atStart => exact ⟨0, by omega, rfl, rfl, rfl⟩
              case round =>
                obtain ⟨q, hqg, rfl, rfl, rfl⟩ := hrel
                have HQG := Lib.hid hqg
                cases gk with
                | zero =>
                  obtain rfl : q = nn := by omega
                  have HE : Hid (hasS (ns.take q) a = hasS ns a) := Lib.hid (by rw [List.take_of_length_le (by rw [HNL.out]; exact Nat.le_refl _)])
                  go_wp2_with fail
                  go_meet
                  exact ⟨by rw [HE.out], rfl⟩
                | succ g3 =>
                  have hql : q < nn := by omega
                  obtain ⟨ad3, hq2, rfl, d0⟩ := HNW.out.str hql
                  have HHS := Lib.hid (hasS_snoc hq2 a)
                  have y0 := HX3.out.cell 0
                  simp only [List.getElem?_cons_zero] at y0
                  generalize ns[q] = z at *
                  obtain ⟨bh, hbh⟩ : ∃ b, hasS (ns.take q) a = b := ⟨_, rfl⟩
                  rw [hbh] at HHS ⊢
                  clear hbh
                  cases bh with
                  | true =>
                    go_wp2_with fail
                    go_roundg g3
                    case measure => omega
                    case rel => exact ⟨q + 1, by have := HQG.out; omega, by first | rfl | go_num, by rw [HHS.out]; rfl, rfl⟩
                  | false =>
                    by_cases hz : z = a
                    · have t1 : (z.toList == a.toList) = true := by rw [hz]; simp
                      have HZ : Hid (hasS (ns.take (q + 1)) a = true) := Lib.hid (by rw [HHS.out, decide_eq_true hz]; rfl)
                      clear hz
                      go_wp2_with fail
                      go_roundg g3
                      case measure => omega
                      case rel => exact ⟨q + 1, by have := HQG.out; omega, by first | rfl | go_num, by rw [HZ.out], rfl⟩
                    · have t1 : (z.toList == a.toList) = false := by rw [beq_eq_false_iff_ne]; exact fun h => hz (ba_ext h)
                      have HZ : Hid (hasS (ns.take (q + 1)) a = false) := Lib.hid (by rw [HHS.out, decide_eq_false hz]; rfl)
                      clear hz
                      go_wp2_with fail
                      go_roundg g3
                      case measure => omega
                      case rel => exact ⟨q + 1, by have := HQG.out; omega, by first | rfl | go_num, by rw [HZ.out], rfl⟩
            case rest =>
              obtain ⟨rfl, rfl⟩ := hcut
              obtain ⟨bh, hbh⟩ : ∃ b, hasS ns a = b := ⟨_, rfl⟩
              rw [hbh] at HSN ⊢
              clear hbh
              have hws := HB3.out.size
              cases bh with
              | false =>
                have HSN2 : Hid (keepL ns (l.take (j + 1)) = keepL ns (l.take j)) := Lib.hid (by rw [HSN.out]; simp)
                go_wp2_with fail
                go_roundg g2
                case measure => omega
                case rel => exact ⟨j + 1, S, m, c3, by have := HJG.out; omega, by first | rfl | go_num, rfl, by rw [HSN2.out]; exact HML.out, by rw [HSN2.out]; exact HO3.out, HB3.out⟩
              | true =>
                have HSN2 : Hid (keepL ns (l.take (j + 1)) = keepL ns (l.take j) ++ [(a, b)]) := Lib.hid (by rw [HSN.out]; simp)
                have c0 := HX3.out.cell 0
                have c1 := HX3.out.cell 1
                simp only [List.getElem?_cons_zero, List.getElem?_cons_succ] at c0 c1
                have HX := Lib.hid (show Sees (wc.alloc (.cells #[.string a, .string b] 53)) (wc.alloc (.cells #[.string a, .string b] 53)).heap.size 2 (some ⟨wc.heap.size, 0, none⟩) 1 (lbls [(a, b)]) from (Blk.mk (heap_alloc_new wc _) : Blk _ wc.heap.size 53 [.string a, .string b]).sees rfl (List.prefix_refl _))
                have HOA := Lib.hid (HO3.out.alloc (.cells #[.string a, .string b] 53))
                have HBA := Lib.hid (HB3.out.alloc hws (.cells #[.string a, .string b] 53))
                have HBX := Lib.hid (show ∀ g, (Value.slice S m c3).ownBlock = some g → W2.heap.size ≤ g from fun g hg => (HO3.out.lt g hg).1)
                have hm0 : m ≤ 1000000 := by have h := HML.out; have h2 := List.length_filter_le (fun x => hasS ns x.1) (l.take j); have h3 : (l.take j).length ≤ j := List.length_take_le _ _; unfold keepL at h; omega
                clear HX3 HO3 HB3
                go_upto_region 16 with fail
                go_wp2_with (at_builtin; refine wpList_append_at rfl (.tmp 51) (.tmp 53) 26 rfl W2.heap.size 53 j0 (.agg #[.string ⟨#[]⟩, .string ⟨#[]⟩]) 2 32 Try.underlying26 HJ.out HY0.out HY1.out HY2.out rfl (by decide) _ m (lbls (keepL ns (l.take j))) rfl HOA.out _ _ 1 1 (lbls [(a, b)]) rfl HX.out (lbls_one _) (by unfold maxLen; omega) (by omega) (by simp; omega) ?_)
                intro v3 w3 hown3 hgr3 hwh3
                obtain ⟨A3, d3, rfl, hc3, hc4⟩ := own_slice hown3
                rw [← lbls_append, ← HSN2.out] at hown3
                have HO4 := Lib.hid hown3
                have HB4 := Lib.hid (HBA.out.grown hgr3 (by simp; omega) HBX.out)
                have HML3 : Hid ((keepL ns (l.take (j + 1))).length = m + 1) := Lib.hid (by rw [HSN2.out, List.length_append, HML.out]; rfl)
                clear hown3 hgr3 hwh3 HOA HX HBA HBX HSN2
                go_wp2_with fail
                go_roundg g2
                case measure => omega
                case rel => exact ⟨j + 1, A3, m + 1, d3, by have := HJG.out; omega, by first | rfl | go_num, rfl, HML3.out, HO4.out, HB4.out⟩
      case rest =>
        obtain ⟨S, sn, c3, rfl, hsn, hown, hb3⟩ := hcut
        have HSN := Lib.hid hsn
        have HOL := Lib.hid (show OwnL wc (.slice S sn c3) (keepL ns l) from ⟨S, c3, by rw [hsn], by rw [hsn]; exact own_mono hown (Nat.zero_le _)⟩)
        have HQ3 := Lib.hid (HQ.out.below hb3)
        clear hown hb3 HQ HSS HKL hsn
        obtain ⟨kl, hkl⟩ : ∃ q, keepL ns l = q := ⟨_, rfl⟩
        rw [hkl] at HOL HKK HSN
        have HKE := Lib.hid hkl
        have HPK := Lib.hid (fun (V : World) (hV : OwnL V (.slice S sn c3) kl) => pr_call hV.hasL HKK.out.1 HKK.out.2)
        clear hkl
        go_upto_block 6 with fail
        go_cut [17, 18, 19] from 26 to 70 (fun x17 x18 x19 wx => x17 = .int .i64 (fI (idxG (txtG gs) (printL kl))) ∧ Below wc.heap.size wc wx)
        case first => --done
          go_wp2_with fail
          go_loopg [17, 58] rn (fun g x17 x58 wz => ∃ i : Nat, i + g = rn ∧ x58 = .int .i64 i ∧ x17 = .int .i64 (fI (idxG ((txtG gs).take i) (printL kl))) ∧ Below wc.heap.size wc wz)
          case atStart => exact ⟨0, by omega, rfl, rfl, Below.refl _ _⟩
          case round =>
            obtain ⟨i, hig, rfl, rfl, hbz⟩ := hrel
            have HIG := Lib.hid hig; have HBZ := Lib.hid hbz
            have hrn8 : rn ≤ 1000 := by have := HRN.out; have := HQ3.out.out.len; omega
            have HGL : Hid ((txtG gs).length = rn) := Lib.hid (by rw [← HQ3.out.out.eq]; unfold txtG; rw [List.length_map, ptsOf_len, HRN.out])
            clear hbz
            cases gk with
            | zero =>
              obtain rfl : i = rn := by omega
              have HE : Hid ((txtG gs).take i = txtG gs) := Lib.hid (List.take_of_length_le (by rw [HGL.out]; exact Nat.le_refl _))
              go_wp2_with fail
              go_meet
              exact ⟨by rw [HE.out], HBZ.out⟩
            | succ g2 =>
              have hir : i < rows.length := by have := HRN.out; omega
              obtain ⟨ad2, hX, c0, c1, hhl⟩ := (HQ3.out.out.below HBZ.out).at_.get2 hir
              obtain ⟨hyl, hyx⟩ := HSO.out rows[i] (List.getElem_mem hir)
              have HTG : Hid ((txtG gs)[i]? = some (printL rows[i].set)) := Lib.hid (by rw [← HQ3.out.out.eq]; unfold txtG ptsOf; rw [List.map_map, List.getElem?_map, List.getElem?_eq_getElem hir]; rfl)
              have HLN := Lib.hid (last_next (t := printL kl) (by have h := HND.out k; rw [HER.out] at h; exact h) HTG.out)
              subst hX
              generalize rows[i] = y at *
              obtain ⟨yv, yl, yn⟩ := y
              simp only at c0 c1 hhl hyl hyx HLN
              have HPY := Lib.hid (fun (V : World) (hV : HasL V yv yl) => pr_call hV hyl hyx)
              obtain ⟨YA, yc, rfl, hu1, hu2, hu3⟩ := id hhl
              clear hu1 hu2 hu3
              obtain ⟨yk, hyk⟩ : ∃ n, yl.length = n := ⟨_, rfl⟩
              rw [hyk] at c0 hhl HPY
              clear hyk
              have hal := World.block_lt_of_cell? wr _ c0
              have hb4 := (Below.refl wr.heap.size wr).alloc (Nat.le_refl _) (.cells #[.slice YA yk yc, .int .i64 yn] 28)
              have HHY := Lib.hid (hhl.below hb4)
              have HO5 := Lib.hid ((HOL.out.below HBZ.out).below hb4)
              have HB5 := Lib.hid (HBZ.out.trans (hb4.mono HBZ.out.size))
              have HX5 := Lib.hid (Blk.mk (heap_alloc_new wr (.cells #[.slice YA yk yc, .int .i64 yn] 28)) : Blk _ wr.heap.size 28 [.slice YA yk yc, .int .i64 yn])
              clear hhl hyl hyx hb4 HBZ
              go_upto_region 22 with fail
              obtain ⟨by_, hby⟩ : ∃ b, wr.heap.size = b := ⟨_, rfl⟩
              rw [hby] at HX5
              rw [hby]
              clear hby c0 c1 hal
              generalize wr.alloc (.cells #[.slice YA yk yc, .int .i64 yn] 28) = W5 at *
              have z0 := HX5.out.cell 0
              simp only [List.getElem?_cons_zero] at z0
              go_wp2_with fail
              (with_reducible refine (HPY.out _ HHY.out).mono ?_); rintro e w6 ⟨rfl, hb6⟩
              have HO6 := Lib.hid (HO5.out.below hb6); have HB6 := Lib.hid (HB5.out.trans (hb6.mono HB5.out.size))
              clear hb6 HHY HO5 HB5 HX5 z0 HPY
              go_wp2_with fail
              (with_reducible refine (HPK.out _ HO6.out).mono ?_); rintro e w7 ⟨rfl, hb7⟩
              have HB7 := Lib.hid (HB6.out.trans (hb7.mono HB6.out.size))
              clear hb7 HO6 HB6
              by_cases hk : printL yl = printL kl
              · have HE := Lib.hid (HLN.out.1 hk)
                have hd : (printL yl == printL kl) = true := by rw [hk]; simp
                clear hk
                go_wp2_with fail
                go_roundg g2
                case measure => omega
                case rel => exact ⟨i + 1, by have := HIG.out; omega, by first | rfl | go_num, by rw [HE.out]; rfl, HB7.out⟩
              · have HE := Lib.hid (HLN.out.2 hk)
                have hd : (printL yl == printL kl) = false := by rw [beq_eq_false_iff_ne]; exact hk
                clear hk
                go_wp2_with fail
                go_roundg g2
                case measure => omega
                case rel => exact ⟨i + 1, by have := HIG.out; omega, by first | rfl | go_num, by rw [HE.out], HB7.out⟩
        case rest =>
          obtain ⟨rfl, hb4⟩ := hcut
          have HQ4 := Lib.hid (HQ3.out.below hb4); have HOL4 := Lib.hid (HOL.out.below hb4)
          clear hb4 HQ3 HOL HPK
          obtain ⟨o, ho⟩ : ∃ o, idxG (txtG gs) (printL kl) = o := ⟨_, rfl⟩
          have HOP : Hid (idxG (txtG gs) (printL (keepL ns l)) = o) := Lib.hid (by rw [HKE.out]; exact ho)
          rw [ho]
          obtain ⟨fv, hfv⟩ : ∃ v, fI o = v := ⟨_, rfl⟩
          rw [hfv]
          clear ho
          have z0 := HQ4.out.box.cell 0
          have z1 := HQ4.out.box.cell 1
          simp only [List.getElem?_cons_zero, List.getElem?_cons_succ] at z0 z1
          cases o with
          | none => --done
            obtain rfl : fv = -1 := hfv.symm
            have HEN := Lib.hid (show groupF kd ns (ptsOf (ra.take (k + 1))) = (gs ++ [(kl, begunF kd val)], 0) by rw [HNX.out, HER.out, stepG_none HOP.out, HKE.out])
            have HVN := Lib.hid (show I64 (begunF kd val) ∧ (kd = 20 → begunF kd val ≤ (k + 1 : Nat)) from ⟨begun_in HI64.out, fun e => by unfold begunF; rw [if_pos e]; omega⟩)
            obtain ⟨vl, hvl⟩ : ∃ v, begunF kd val = v := ⟨_, rfl⟩
            rw [hvl] at HEN HVN
            clear HER HNX HOP hfv
            by_cases hk20 : kd = 20
            · obtain rfl : vl = 1 := by rw [← hvl]; unfold begunF; rw [if_pos hk20]
              have t1 : (kd == 20) = true := by simp [hk20]
              clear hvl hk20
              have hb5 := (Below.refl wc.heap.size wc).alloc (Nat.le_refl _) (.cells #[.slice S sn c3, .int .i64 1] 28)
              have HO9 := Lib.hid (HQ4.out.out.below hb5)
              have HOL9 := Lib.hid (HOL4.out.below hb5)
              have HBE9 := Lib.hid (HQ4.out.bel.trans (hb5.mono HQ4.out.bel.size))
              have HX4 := Lib.hid ((Blk.mk (heap_alloc_new wc (.cells #[.slice S sn c3, .int .i64 1] 28)) : Blk _ wc.heap.size 28 [.slice S sn c3, .int .i64 1]).sees (size := 2) (n := 1) rfl (List.prefix_refl _))
              have hrl := HO9.out.len
              rw [HRN.out] at hrl
              clear hb5 HQ4 HOL4
              go_upto_region 29 with fail
              clear z0 z1
              go_wp2_with (at_builtin; refine wpList_append_at rfl (.tmp 77) (.tmp 81) 22 rfl w0.heap.size 28 i0 (.agg #[.slice none 0 0, .int .i64 0]) 2 32 Try.underlying22 HI.out HZ0.out HZ1.out HZ2.out rfl (by decide) (.slice X rn cx) rn (pts rows) rfl (by have h := HO9.out.at_.own; rwa [HRN.out] at h) _ (some ⟨wc.heap.size, 0, none⟩) 1 _ [.slice S sn c3, .int .i64 1] rfl HX4.out (by intro u hu; simp at hu; rcases hu with rfl | rfl <;> rfl) (by unfold maxLen; omega) (by omega) HBE9.out.size ?_)
              intro v' w10 hown hgr hwh
              have HO10 := Lib.hid (HO9.out.push (l := kl) (z := 1) HOL9.out HKK.out.1 (by rw [HRN.out]; exact hown) hgr rfl)
              have HBE10 := Lib.hid (HBE9.out.grown hgr HBE9.out.size (fun g e => (HO9.out.at_.own.lt g e).1))
              obtain ⟨A5, c5, rfl, hu1, hu2⟩ := own_slice hown
              have HL5 : Hid ((rows ++ [(⟨.slice S sn c3, kl, 1⟩ : PtR)]).length = rn + 1) := Lib.hid (by rw [List.length_append, HRN.out]; rfl)
              have HVS2 := Lib.hid (show ∀ p : Pt, p ∈ gs ++ [((kl, 1) : Pt)] → I64 p.2 ∧ (kd = 20 → p.2 ≤ ((k + 1 : Nat) : Int)) from fun p hp => by
                rcases List.mem_append.1 hp with hp | hp
                · exact ⟨(HVS.out p hp).1, fun e => by have := (HVS.out p hp).2 e; omega⟩
                · rw [List.mem_singleton] at hp; subst hp; exact HVN.out)
              have HSO2 := Lib.hid (show SetsOk (rows ++ [(⟨.slice S sn c3, kl, 1⟩ : PtR)]) from fun p hp => by
                rcases List.mem_append.1 hp with hp | hp
                · exact HSO.out p hp
                · rw [List.mem_singleton] at hp; subst hp; exact HKK.out)
              clear hown hgr hwh HO9 HOL9 HBE9 HX4 hu1 hu2
              go_wp2_with fail
              go_roundg g
              case measure => omega
              case rel => exact ⟨k + 1, A5, c5, _, _, by have := HKG.out; omega, by first | rfl | go_num, by rw [HL5.out], by rw [HL5.out]; exact HO10.out, HSO2.out, HEN.out, HVS2.out, HBE10.out⟩
            · obtain rfl : vl = val := by rw [← hvl]; unfold begunF; rw [if_neg hk20]
              have t1 : (kd == 20) = false := by simp [hk20]
              clear hvl hk20
              have hb5 := (Below.refl wc.heap.size wc).alloc (Nat.le_refl _) (.cells #[.slice S sn c3, .int .i64 vl] 28)
              have HO9 := Lib.hid (HQ4.out.out.below hb5)
              have HOL9 := Lib.hid (HOL4.out.below hb5)
              have HBE9 := Lib.hid (HQ4.out.bel.trans (hb5.mono HQ4.out.bel.size))
              have HX4 := Lib.hid ((Blk.mk (heap_alloc_new wc (.cells #[.slice S sn c3, .int .i64 vl] 28)) : Blk _ wc.heap.size 28 [.slice S sn c3, .int .i64 vl]).sees (size := 2) (n := 1) rfl (List.prefix_refl _))
              have hrl := HO9.out.len
              rw [HRN.out] at hrl
              clear hb5 HQ4 HOL4
              go_upto_region 29 with fail
              clear z0 z1
              go_wp2_with (at_builtin; refine wpList_append_at rfl (.tmp 77) (.tmp 81) 22 rfl w0.heap.size 28 i0 (.agg #[.slice none 0 0, .int .i64 0]) 2 32 Try.underlying22 HI.out HZ0.out HZ1.out HZ2.out rfl (by decide) (.slice X rn cx) rn (pts rows) rfl (by have h := HO9.out.at_.own; rwa [HRN.out] at h) _ (some ⟨wc.heap.size, 0, none⟩) 1 _ [.slice S sn c3, .int .i64 vl] rfl HX4.out (by intro u hu; simp at hu; rcases hu with rfl | rfl <;> rfl) (by unfold maxLen; omega) (by omega) HBE9.out.size ?_)
              intro v' w10 hown hgr hwh
              have HO10 := Lib.hid (HO9.out.push (l := kl) (z := vl) HOL9.out HKK.out.1 (by rw [HRN.out]; exact hown) hgr rfl)
              have HBE10 := Lib.hid (HBE9.out.grown hgr HBE9.out.size (fun g e => (HO9.out.at_.own.lt g e).1))
              obtain ⟨A5, c5, rfl, hu1, hu2⟩ := own_slice hown
              have HL5 : Hid ((rows ++ [(⟨.slice S sn c3, kl, vl⟩ : PtR)]).length = rn + 1) := Lib.hid (by rw [List.length_append, HRN.out]; rfl)
              have HVS2 := Lib.hid (show ∀ p : Pt, p ∈ gs ++ [((kl, vl) : Pt)] → I64 p.2 ∧ (kd = 20 → p.2 ≤ ((k + 1 : Nat) : Int)) from fun p hp => by
                rcases List.mem_append.1 hp with hp | hp
                · exact ⟨(HVS.out p hp).1, fun e => by have := (HVS.out p hp).2 e; omega⟩
                · rw [List.mem_singleton] at hp; subst hp; exact HVN.out)
              have HSO2 := Lib.hid (show SetsOk (rows ++ [(⟨.slice S sn c3, kl, vl⟩ : PtR)]) from fun p hp => by
                rcases List.mem_append.1 hp with hp | hp
                · exact HSO.out p hp
                · rw [List.mem_singleton] at hp; subst hp; exact HKK.out)
              clear hown hgr hwh HO9 HOL9 HBE9 HX4 hu1 hu2
              go_wp2_with fail
              go_roundg g
              case measure => omega
              case rel => exact ⟨k + 1, A5, c5, _, _, by have := HKG.out; omega, by first | rfl | go_num, by rw [HL5.out], by rw [HL5.out]; exact HO10.out, HSO2.out, HEN.out, HVS2.out, HBE10.out⟩
          | some i =>
            obtain rfl : fv = (i : Int) := hfv.symm
            obtain ⟨hi1, hi2⟩ := idxG_some HOP.out
            have hir : i < rows.length := by
              rw [← HQ4.out.out.eq] at hi1
              unfold txtG at hi1; rw [List.length_map, ptsOf_len] at hi1; exact hi1
            obtain ⟨ad0, hX, y0, y1, hu⟩ := HQ4.out.out.at_.get2 hir
            subst hX
            clear y0 hu hi1 hi2 hfv
            have hgs : gs[i]? = some (rows[i].set, rows[i].val) := by rw [← HQ4.out.out.eq]; unfold ptsOf; rw [List.getElem?_map, List.getElem?_eq_getElem hir]; rfl
            have HVI := Lib.hid (HVS.out _ (List.mem_of_getElem? hgs))
            have HSG := Lib.hid (stepG_some (kd := kd) (p := (l, val)) HOP.out hgs)
            have hirn : i < rn := by have := HRN.out; omega
            have hirI : (i : Int) < rn := by omega
            have hi0 : ¬ (i : Int) < 0 := by omega
            have hrl := HQ4.out.out.len
            rw [HRN.out] at hrl
            have HIR := Lib.hid hir
            generalize hvb : rows[i].val = vb at *
            have hkd1 := HKD.out.1; have hkd2 := HKD.out.2
            have hgin := gather_in (k := kd) HVI.out.1 HI64.out (fun e => by have := HVI.out.2 e; omega)
            have hger := gather_er (a := vb) (b := val) hkd1 hkd2
            have hgc : kd = 20 → (gatherF kd vb val).1 ≤ (k + 1 : Nat) := fun e => by
              have := HVI.out.2 e
              subst e
              show vb + 1 ≤ _
              omega
            obtain ⟨⟨gv, ge⟩, hgt⟩ : ∃ p, gatherF kd vb val = p := ⟨_, rfl⟩
            have HGF := Lib.hid hgt
            rw [hgt] at hgin hger hgc
            simp only at hgin hger hgc
            have HEN := Lib.hid (show groupF kd ns (ptsOf (ra.take (k + 1))) = if ge = 0 then (gs.set i (rows[i].set, gv), 0) else ([], ge) by
              rw [HNX.out, HER.out, HSG.out]; simp only [hgt]; rfl)
            obtain ⟨gok, hgok⟩ : ∃ b, decide (ge = 0) = b := ⟨_, rfl⟩
            have HGO := Lib.hid hgok
            have HGI := Lib.hid (And.intro hgin hgc); have HGR := Lib.hid hger
            clear hgin hgc hgt hgok hger hgs hvb HSG HNX HER HOP hkg
            obtain ⟨W8, rfl⟩ : ∃ W, W = wc := ⟨_, rfl⟩
            go_upto_block 8 with fail
            go_cut [21, 22] from 26 to 113 (fun x21 x22 wx => x21 = .int .i64 gv ∧ x22 = .bool gok ∧ wx = W8)
            case first => --done
              clear y1 z0
              rcases (show kd = 17 ∨ kd = 20 ∨ kd = 18 ∨ kd = 19 by omega) with k17 | k20 | k18 | k19
              · --done
                have t17 : (kd == 17) = true := by simp [k17]
                have t20 : (kd == 20) = false := by simp [k17]
                have t18 : (kd == 18) = false := by simp [k17]
                have HGE : Hid (gv = nV (vb + val) ∧ gok = nB (vb + val)) := Lib.hid (by
                  have h := HGF.out
                  unfold gatherF at h; rw [if_pos k17] at h
                  injection h with h3 h4
                  refine ⟨h3.symm, ?_⟩
                  rw [← HGO.out, ← h4]
                  by_cases hi : I64 (vb + val)
                  · rw [nE_in hi, nB_in hi]; rfl
                  · rw [nE_out hi, nB_out hi]; rfl)
                have HA := Lib.hid (ref_add_any vb val W8 HVI.out.1 HI64.out)
                clear k17
                go_wp2_with fail
                (with_reducible refine HA.out.mono ?_); rintro e w' ⟨rfl, rfl⟩
                go_wp2_with fail
                go_meet
                exact ⟨by rw [HGE.out.1], by rw [HGE.out.2], rfl⟩
              · --done
                have t17 : (kd == 17) = false := by simp [k20]
                have t20 : (kd == 20) = true := by simp [k20]
                have t18 : (kd == 18) = false := by simp [k20]
                have HGE : Hid (gv = vb + 1 ∧ gok = true) := Lib.hid (by
                  have h := HGF.out
                  unfold gatherF at h
                  rw [if_neg (by omega), if_neg (by omega), if_neg (by omega), if_pos k20] at h
                  injection h with h3 h4
                  exact ⟨h3.symm, by rw [← HGO.out, ← h4]; rfl⟩)
                have hw : IntKind.i64.wrap (vb + 1) = vb + 1 := by
                  have h3 := HVI.out.2 k20; have h4 := HVI.out.1; unfold I64 at h4
                  rw [IntKind.wrap_i64]; omega
                clear k20
                go_wp2_with fail
                go_meet
                exact ⟨by rw [HGE.out.1], by rw [HGE.out.2], rfl⟩
              · --done
                have t17 : (kd == 17) = false := by simp [k18]
                have t20 : (kd == 20) = false := by simp [k18]
                have t18 : (kd == 18) = true := by simp [k18]
                have HGE : Hid (gv = min vb val ∧ gok = true) := Lib.hid (by
                  have h := HGF.out
                  unfold gatherF at h
                  rw [if_neg (by omega), if_pos k18] at h
                  injection h with h3 h4
                  exact ⟨h3.symm, by rw [← HGO.out, ← h4]; rfl⟩)
                clear k18
                go_wp2_with fail
                all_goals
                  go_meet
                  exact ⟨congrArg (Value.int .i64) (by have := HGE.out.1; omega), by rw [HGE.out.2], rfl⟩
              · --done
                have t17 : (kd == 17) = false := by simp [k19]
                have t20 : (kd == 20) = false := by simp [k19]
                have t18 : (kd == 18) = false := by simp [k19]
                have HGE : Hid (gv = max vb val ∧ gok = true) := Lib.hid (by
                  have h := HGF.out
                  unfold gatherF at h
                  rw [if_neg (by omega), if_neg (by omega), if_pos k19] at h
                  injection h with h3 h4
                  exact ⟨h3.symm, by rw [← HGO.out, ← h4]; rfl⟩)
                clear k19
                go_wp2_with fail
                all_goals
                  go_meet
                  exact ⟨congrArg (Value.int .i64) (by have := HGE.out.1; omega), by rw [HGE.out.2], rfl⟩
            case rest =>
              obtain ⟨rfl, rfl, rfl⟩ := hcut
              clear y1 z0 z1
              cases gok with
              | false =>
                have hge : ge ≠ 0 := of_decide_eq_false HGO.out
                obtain rfl : ge = 3 := by rcases HGR.out with h | ⟨_, h, _⟩; exact absurd h hge; exact h
                have HG : Hid (PtsAnsE (groupR kd ns (ptsOf ra)) w0 (.returned (.tuple #[.slice none 0 0, .int .i64 3])) wc) := Lib.hid (.fault (by
                  have h0 := HEN.out
                  rw [if_neg (by decide)] at h0
                  have h1 := HHI.out k HLT.out (by rw [h0]; decide)
                  rw [HRS.out, h1, h0, if_neg (by decide)]) HQ4.out.bel)
                clear hge HEN HQ4
                go_wp2_with fail
                go_ret2
                exact HG.out
              | true =>
                obtain rfl : ge = 0 := of_decide_eq_true HGO.out
                have HEN2 := Lib.hid (show groupF kd ns (ptsOf (ra.take (k + 1))) = (gs.set i (rows[i].set, gv), 0) by rw [HEN.out, if_pos rfl])
                have HA1 := Lib.hid (World.ownsRow_made (base := wc.heap.size) (e := 28) (size := 2) wc #[] 0 (by omega) (by unfold maxLen; omega) rfl)
                have HB1 := Lib.hid ((Below.refl wc.heap.size wc).alloc (Nat.le_refl _) (.cells #[] 28))
                have HSE2 := Lib.hid (show Sees (wc.alloc (.cells #[] 28)) wc.heap.size 2 (some ad0) rn (pts rows) from by
                  have h := HQ4.out.out.at_.own
                  rw [HRN.out] at h
                  exact ((Sees.of_own h).below HB1.out))
                have HOC := Lib.hid (pts_oneC HQ4.out.out.at_.each)
                clear HEN HGO HGR HGF
                go_upto_region 40 with fail
                go_wp2_with (at_builtin; refine wpList_append_at rfl (.tmp 116) (.tmp 117) 22 rfl wc.heap.size 28 i0 (.agg #[.slice none 0 0, .int .i64 0]) 2 32 Try.underlying22 HI.out HZ0.out HZ1.out HZ2.out rfl (by decide) (.slice (some ⟨wc.heap.size, 0, none⟩) 0 0) 0 [] rfl HA1.out _ (some ad0) rn cx (pts rows) rfl HSE2.out HOC.out (by unfold maxLen; omega) (by omega) HB1.out.size ?_)
                intro v' w10 hown hgr hwh
                have HB10 := Lib.hid (HB1.out.grown hgr HB1.out.size (fun g e => by simp [Value.ownBlock] at e; omega))
                obtain ⟨A5, c5, rfl, hu1, hu2⟩ := own_slice hown
                have HO10 := Lib.hid (show OutAt w0.heap.size (.slice A5 rows.length c5) rows k gs w10 from ⟨⟨by
                    have h := own_mono hown (base' := w0.heap.size) HQ4.out.bel.size
                    rw [← HRN.out] at h; exact h, fun x hx => (HQ4.out.out.at_.each x hx).below HB10.out⟩, HQ4.out.out.len, HQ4.out.out.sets, HQ4.out.out.eq⟩)
                have HBE10 := Lib.hid (HQ4.out.bel.trans (HB10.out.mono HQ4.out.bel.size))
                clear hown hgr hwh hu1 hu2 HA1 HB1 HSE2 HOC HQ4
                obtain ⟨g0, hXX, hg0, hg0l, hfz⟩ := HO10.out.form (by have := HIR.out; omega)
                subst hXX
                have hadd := add_mkV g0 (i * 2)
                obtain ⟨ad9, h9, hu3, y1, hu4⟩ := HO10.out.at_.get2 HIR.out
                injection h9 with h9; subst h9
                rw [hadd] at y1
                clear hu3 hu4
                have HST5 := Lib.hid (HO10.out.store HIR.out gv (ps' := gs.set i (rows[i].set, gv)) rfl)
                have HBE6 := Lib.hid (HBE10.out.setCell (p := ⟨g0, i * 2 + 1, none⟩) hg0 (.int .i64 gv))
                have hf1 := hfz (i * 2 + 1)
                have HLR : Hid ((rows.set i ⟨rows[i].sv, rows[i].set, gv⟩).length = rn) := Lib.hid (by rw [List.length_set, HRN.out])
                have HVS2 := Lib.hid (show ∀ p ∈ gs.set i (rows[i].set, gv), I64 p.2 ∧ (kd = 20 → p.2 ≤ (k + 1 : Nat)) from fun p hp => by
                  rcases List.mem_or_eq_of_mem_set hp with hp | rfl
                  · exact ⟨(HVS.out p hp).1, fun e => by have := (HVS.out p hp).2 e; omega⟩
                  · exact HGI.out)
                have HSO2 := Lib.hid (show SetsOk (rows.set i ⟨rows[i].sv, rows[i].set, gv⟩) from fun p hp => by
                  rcases List.mem_or_eq_of_mem_set hp with hp | rfl
                  · exact HSO.out p hp
                  · exact (HSO.out rows[i] (List.getElem_mem HIR.out)))
                have HOF := Lib.hid (show OutAt w0.heap.size (.slice (some ⟨g0, 0, none⟩) rows.length c5) (rows.set i ⟨rows[i].sv, rows[i].set, gv⟩) (k + 1) (gs.set i (rows[i].set, gv)) _ from ⟨HST5.out.at_, Nat.le_succ_of_le HST5.out.len, HST5.out.sets, HST5.out.eq⟩)
                rw [HRN.out] at HOF
                clear HO10 HST5 HVS HGI HSO hfz
                go_wp2_with fail
                go_roundg g
                case measure => omega
                case rel => exact ⟨k + 1, some ⟨g0, 0, none⟩, c5, rows.set i ⟨rows[i].sv, rows[i].set, gv⟩, gs.set i (rows[i].set, gv), by have := HKG.out; omega, by first | rfl | go_num, by rw [HLR.out], by rw [HLR.out]; exact HOF.out, HSO2.out, HEN2.out, HVS2.out, HBE6.out⟩
end Go.Proofs.Ytbndmmfpoljeaaa
