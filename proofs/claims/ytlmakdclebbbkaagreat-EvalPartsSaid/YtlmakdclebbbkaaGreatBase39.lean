/- Texts, merged in one. -/
import Derived.Test.YtlmakdclebbbkaaGreatBase27
import Derived.Test.YtlmakdclebbbkaaGreatBase5
import Derived.Test.YtlmakdclebbbkaaGreatBase4
import Derived.Test.YtlmakdclebbbkaaGreatBase32
import Derived.Test.YtlmakdclebbbkaaGreatBase24
import Derived.Test.YtlmakdclebbbkaaGreatBase20
import Derived.Test.YtlmakdclebbbkaaGreatBase26
import Derived.Test.YtlmakdclebbbkaaGreatBase19
import Derived.Test.YtlmakdclebbbkaaGreatBase11
namespace Go.Proofs.YtlmakdclebbbkaaGreat
open Go.ChangeShapes Go.WideShapes Go.ChangeAt Go.RowKit
set_option linter.unusedVariables false
set_option linter.unusedSimpArgs false
set_option maxRecDepth 100000
theorem pts_set (l : List PtR) {p : Nat} (h : p < l.length) (v : Int) : (pts l).set (p * 2 + 1) (.int .i64 v) = pts (l.set p ⟨l[p].sv, l[p].set, v⟩) := by
  have e : pts l = pts (l.take p) ++ (pts [l[p]] ++ pts (l.drop (p + 1))) := by
    rw [← pts_append, ← pts_append, List.singleton_append, ← List.drop_eq_getElem_cons h, List.take_append_drop]
  have hl : (pts (l.take p)).length = p * 2 := by rw [pts_length, List.length_take]; omega
  have e2 : l.set p ⟨l[p].sv, l[p].set, v⟩ = l.take p ++ ([⟨l[p].sv, l[p].set, v⟩] ++ l.drop (p + 1)) := by rw [List.set_eq_take_append_cons_drop, if_pos h]; rfl
  rw [e2, pts_append, pts_append, e]
  rw [List.set_append_right _ _ (by omega), hl, show p * 2 + 1 - p * 2 = 1 by omega]
  rfl
theorem OutAt.store {base k c g i : Nat} {rows : List PtR} {ps ps' : List Pt} {W : World} (h : OutAt base (.slice (some ⟨g, 0, none⟩) rows.length c) rows k ps W) (hi : i < rows.length) (v : Int) (e : ps' = ps.set i (rows[i].set, v)) :
    OutAt base (.slice (some ⟨g, 0, none⟩) rows.length c) (rows.set i ⟨rows[i].sv, rows[i].set, v⟩) k ps' (W.setCell ⟨g, i * 2 + 1, none⟩ (.int .i64 v)) := by
  have hg : W.grownBy (W.setCell ⟨g, i * 2 + 1, none⟩ (.int .i64 v)) (some g) := only_setCell (World.grownBy.refl W (some g)) (p := ⟨g, i * 2 + 1, none⟩) (.inl rfl) _
  have hl : (rows.set i ⟨rows[i].sv, rows[i].set, v⟩).length = rows.length := List.length_set
  refine ⟨⟨?_, fun y hy => ?_⟩, by rw [hl]; exact h.len, fun y hy => ?_, ?_⟩
  · have := own_setV h.at_.own (i := i * 2 + 1) (by rw [pts_length]; omega) (.int .i64 v)
    rw [pts_set rows hi v] at this
    rw [hl]; exact this
  · refine ownL_grown h.at_.own (by decide) hg _ _ ?_
    rcases List.mem_or_eq_of_mem_set hy with hy | rfl
    · exact h.at_.each y hy
    · exact (show OwnL W rows[i].sv rows[i].set from h.at_.each _ (List.getElem_mem hi))
  · rcases List.mem_or_eq_of_mem_set hy with hy | rfl
    · exact h.sets y hy
    · exact (show rows[i].set.length ≤ 1000 from h.sets _ (List.getElem_mem hi))
  · rw [e, ← h.eq]; unfold ptsOf; rw [List.map_set]
theorem OutAt.form {base k c : Nat} {A : Option Addr} {rows : List PtR} {ps : List Pt} {W : World} (h : OutAt base (.slice A rows.length c) rows k ps W) (h0 : 0 < rows.length) : ∃ g, A = some ⟨g, 0, none⟩ ∧ base ≤ g ∧ g < W.heap.size ∧ ∀ o, W.frozen? ⟨g, o, none⟩ = false := by
  rcases h.at_.own.2 with ⟨h1, h2⟩ | ⟨g, cap, cur, hv, hb, hh, _⟩
  · have q := h.at_.own.1; rw [h2] at q; simp at q; omega
  · injection hv with hv _ _
    exact ⟨g, hv, hb, (Array.getElem?_eq_some_iff.1 hh).1, fun o => by simp [World.frozen?, hh]⟩
theorem imap_ne {w : World} {g n m : Nat} {f : List UInt8 → Option Int} (h : IMap w g n f m) {base : Nat} {e : TypeId} {sz k : Nat} {v : Value} {xs : List Value} (h2 : w.ownsRow base e sz v k xs) (hg : v.ownBlock = some g) : False := by
  obtain ⟨D, ⟨es, clock, h1, _⟩, _⟩ := h
  rcases h2.2 with ⟨rfl, _⟩ | ⟨g1, cap, cur, rfl, _, hh, _⟩
  · simp [Value.ownBlock] at hg
  · simp [Value.ownBlock] at hg
    subst hg
    rw [h1] at hh
    injection hh with hh; cases hh
set_option maxHeartbeats 8000000 in
theorem group_any (b1 : Nat) (A AN : Option Addr) (c nn cn : Nat) (ra : List PtR) (ns : List ByteArray) (kd : Int) (w : World) (h : PtsAt b1 (.slice A ra.length c) ra w) (hns : Sees w w.heap.size 1 AN nn (strs ns)) (hnn : nn ≤ 9223372036854775807) (hn : ra.length ≤ 1000) (hsl : ∀ x ∈ ra, x.set.length ≤ 1000) (hv : ∀ x ∈ ra, I64 x.val) :
    Calls Tryz.prog 115 #[.int .i64 kd, .slice AN nn cn, .slice A ra.length c] w (PtsAnsE (groupR kd ns (ptsOf ra)) w) := by
  obtain ⟨i0, hi, hz0, hz1, hz2⟩ := info_parts Tryz.infoPt
  have HI := Lib.hid hi; have HZ0 := Lib.hid hz0; have HZ1 := Lib.hid hz1; have HZ2 := Lib.hid hz2
  clear hi hz0 hz1 hz2
  have H := Lib.hid (fun (V : World) (hV : Below w.heap.size w V) => h.below hV)
  have HNS := Lib.hid (fun (V : World) (hV : Below w.heap.size w V) => hns.below hV)
  have HSL := Lib.hid hsl; have HV := Lib.hid hv
  have HAN := Lib.hid (groupF_next kd ns ra)
  have HHI := Lib.hid (groupF_hit kd ns ra)
  have HRS : Hid (groupR kd ns (ptsOf ra) = if (groupF kd ns (ptsOf ra)).2 = 0 then (sortP (groupF kd ns (ptsOf ra)).1, 0) else ([], (groupF kd ns (ptsOf ra)).2)) := Lib.hid rfl
  have HM0 := Lib.hid (IMap.made w)
  have HB0 := Lib.hid ((Below.refl w.heap.size w).alloc (Nat.le_refl _) (.map #[] 0))
  obtain ⟨bm, hbm⟩ : ∃ b, w.heap.size = b := ⟨_, rfl⟩
  have HBM := Lib.hid hbm
  rw [hbm] at HM0
  have hmm := @run_makeMap Tryz.prog
  have HWN : Hid (nn ≤ 9223372036854775807) := Lib.hid hnn
  clear h hsl hv hns hnn
  obtain ⟨N, hN⟩ : ∃ N, ra.length = N := ⟨_, rfl⟩
  have HN := Lib.hid hN
  rw [hN] at H hn ⊢
  rw [← hN] at H
  clear hN hbm
  go_enter Tryz.func115, Tryz.ntmps115
  go_upto_region 3 with fail
  rw [HBM.out]
  have HS1 := Lib.hid (show bm < (w.alloc (.map #[] 0)).heap.size by rw [← HBM.out]; simp)
  generalize w.alloc (.map #[] 0) = W1 at *
  clear hmm
  go_wp2_with fail
  go_loopg [8, 21] N (fun g x8 x21 wr => ∃ (k : Nat) (X : Option Addr) (cx : Nat) (rows : List PtR) (gs : List Pt), k + g = N ∧ x21 = .int .i64 k ∧ x8 = .slice X rows.length cx ∧ OutAt W1.heap.size (.slice X rows.length cx) rows k gs wr ∧ groupF kd ns (ptsOf (ra.take k)) = (gs, 0) ∧ (∀ p ∈ gs, I64 p.2 ∧ (kd = 20 → p.2 ≤ k)) ∧ IMap wr bm rows.length (fun t => (idxG (txtG gs) t).map fun i => (i : Int)) gs.length ∧ Below w.heap.size w wr ∧ W1.heap.size ≤ wr.heap.size)
  case atStart => exact ⟨0, none, 0, [], [], by omega, rfl, rfl, OutAt.nil _ _, rfl, (fun p hp => absurd hp List.not_mem_nil), HM0.out, HB0.out, Nat.le_refl _⟩
  case round =>
    obtain ⟨k, X, cx, rows, gs, hkg, rfl, rfl, ho, her, hvs, hmap, hbel, hsz⟩ := hrel
    have HMP := Lib.hid hmap; have HVS := Lib.hid hvs
    have HO := Lib.hid ho; have HBE := Lib.hid hbel; have HER := Lib.hid her
    have HBT := Lib.hid hbel; have HSZ := Lib.hid hsz
    have HBW := HBT.out
    clear ho hbel her hmap hvs HM0 hsz
    cases gk with
    | zero =>
      obtain rfl : k = N := by omega
      have HC := Lib.hid (sort_any W1.heap.size X cx rows wr HO.out.at_ (by have := HO.out.len; omega) HO.out.sets)
      have HF : Hid (groupR kd ns (ptsOf ra) = (sortP (ptsOf rows), 0)) := Lib.hid (by
        have e2 := HER.out
        rw [List.take_of_length_le (by rw [HN.out]; exact Nat.le_refl _)] at e2
        rw [HRS.out, e2, if_pos rfl, HO.out.eq])
      clear HO HBW HER HMP HVS
      go_wp2_with fail
      (with_reducible refine HC.out.mono ?_); rintro e w9 ⟨Y, cy, ry, h1, rfl, h3, h4, h5, h6⟩
      have HG : Hid (PtsAnsE (groupR kd ns (ptsOf ra)) w (.returned (.tuple #[.slice Y ry.length cy, .int .i64 0])) w9) := Lib.hid (.ok HF.out h1 h3 HBT.out.size (HBT.out.trans (h4.mono HBT.out.size)) ⟨h5, h6⟩)
      clear h1 h3 h4 h5 h6 HC HF
      go_wp2_with fail
      go_ret2
      exact HG.out
    | succ g =>
      have hlt : k < ra.length := by have := HN.out; omega
      have HR := H.out wr HBW
      obtain ⟨ad, hA, e0, e1, _⟩ := pt_get HR hlt
      have hol := HR.each ra[k] (List.getElem_mem hlt)
      have hl := HSL.out ra[k] (List.getElem_mem hlt)
      have HNX := Lib.hid (HAN.out k hlt)
      subst hA
      have hi64 := HV.out ra[k] (List.getElem_mem hlt)
      have HLT := Lib.hid hlt
      generalize ra[k] = q at *
      obtain ⟨sv, l, val⟩ := q
      simp only at e0 e1 hol hl hi64
      obtain ⟨A2, c2, hsv, hss, _, _⟩ := hol.hasL
      subst hsv
      obtain ⟨sl, hsl⟩ : ∃ n, l.length = n := ⟨_, rfl⟩
      have HSE := Lib.hid hsl
      rw [hsl] at e0 hss hl hol
      have ha := (Below.refl wr.heap.size wr).alloc (Nat.le_refl _) (.cells #[.slice A2 sl c2, .int .i64 val] 43)
      have HX2 := Lib.hid (Blk.mk (heap_alloc_new wr (.cells #[.slice A2 sl c2, .int .i64 val] 43)) : Blk _ wr.heap.size 43 [.slice A2 sl c2, .int .i64 val])
      have HI64 := Lib.hid hi64
      have HKP := Lib.hid (fun (V : World) (hV : Below wr.heap.size wr V) => keep_any A2 AN sl c2 nn cn V.heap.size V.heap.size l ns V ((hss.below hV).more hV.size) (Nat.le_refl _) (by omega) ((HNS.out V (HBT.out.trans (hV.mono HBT.out.size))).more (Nat.le_trans HBT.out.size hV.size)) (Nat.le_refl _) HWN.out)
      have HO2 := Lib.hid (HO.out.below ha)
      have HMP2 := Lib.hid (HMP.out.below ha)
      have HBE2 := Lib.hid (HBE.out.trans (ha.mono HBE.out.size))
      have HAL := Lib.hid ha
      have HSZ1 := Lib.hid (show W1.heap.size ≤ wr.heap.size + 1 ∧ bm < wr.heap.size from ⟨by have := HSZ.out; omega, by have := HSZ.out; have := HS1.out; omega⟩)
      have HSZA := Lib.hid ha.size
      have hkl : (keepL ns l).length ≤ 1000 := by have := List.length_filter_le (fun x => hasS ns x.1) l; unfold keepL; omega
      obtain ⟨kl, hkl2⟩ : ∃ q, keepL ns l = q := ⟨_, rfl⟩
      have HKE : Hid (l.filter (fun x => hasS ns x.1) = kl) := Lib.hid hkl2
      rw [HKE.out] at HKP
      rw [hkl2] at hkl
      have HKL := Lib.hid hkl2
      obtain ⟨sn, hsn⟩ : ∃ n, kl.length = n := ⟨_, rfl⟩
      have HSN := Lib.hid hsn
      rw [hsn] at HKP hkl
      clear hss hol ha HO HBE HR HBW HMP hsl hsn hi64 hkl2
      go_upto_region 6 with fail
      obtain ⟨bx, hbx⟩ : ∃ b, wr.heap.size = b := ⟨_, rfl⟩
      rw [hbx] at HX2 HAL HKP HSZ1 HSZA
      rw [hbx]
      have HBQ := Lib.hid hbx
      clear hbx e0 e1
      generalize wr.alloc (.cells #[.slice A2 sl c2, .int .i64 val] 43) = W2 at *
      have z0 := HX2.out.cell 0
      have z1 := HX2.out.cell 1
      simp only [List.getElem?_cons_zero, List.getElem?_cons_succ] at z0 z1
      have HKC := Lib.hid (HKP.out W2 HAL.out)
      go_wp2_with fail
      (with_reducible refine HKC.out.mono ?_); rintro e w3 ⟨C2, d2, rfl, hown, hb3, _, _⟩
      have HOL3 := Lib.hid (show OwnL w3 (.slice C2 sn d2) kl from ⟨C2, d2, by rw [HSN.out], by rw [HSN.out]; exact own_mono hown (Nat.zero_le _)⟩)
      have HPR := Lib.hid (print_any C2 sn d2 kl w3.heap.size w3 (Sees.of_own hown) (Nat.le_refl _) (by omega))
      have HO3 := Lib.hid (HO2.out.below hb3)
      have HMP3 := Lib.hid (HMP2.out.below hb3)
      have HBE3 := Lib.hid (HBE2.out.trans (hb3.mono HBE2.out.size))
      have HX3 := Lib.hid (HX2.out.below hb3 HX2.out.lt)
      have hts := printL_size kl
      obtain ⟨tx, htx⟩ : ∃ t, (⟨(printL kl).toArray⟩ : ByteArray) = t := ⟨_, rfl⟩
      have HTX := Lib.hid (show tx.data.toList = printL kl by rw [← htx])
      rw [htx] at HPR hts
      have htm : tx.size ≤ maxLen := by unfold maxLen; omega
      have HSZ3 := Lib.hid hb3.size
      clear hown hb3 HKC HKP HO2 HMP2 HBE2 HX2 z0 z1 hts htx
      go_wp2_with fail
      (with_reducible refine HPR.out.mono ?_); rintro e w4 ⟨rfl, hb4⟩
      have HOL4 := Lib.hid (HOL3.out.below hb4)
      have HO4 := Lib.hid (HO3.out.below hb4)
      have HMP4 := Lib.hid (HMP3.out.below hb4)
      have HBE4 := Lib.hid (HBE3.out.trans (hb4.mono HBE3.out.size))
      have HX4 := Lib.hid (HX3.out.below hb4 HX3.out.lt)
      have HSZ4 := Lib.hid (show W1.heap.size ≤ w4.heap.size from by have := HSZ.out; have := HAL.out.size; have := HBQ.out; have := HSZ3.out; have := hb4.size; have := HSZA.out; omega)
      have z0 := HX4.out.cell 0
      have z1 := HX4.out.cell 1
      simp only [List.getElem?_cons_zero, List.getElem?_cons_succ] at z0 z1
      have hlk := HMP4.out.look htm
      rw [HTX.out] at hlk
      have HRL := Lib.hid (show gs.length = rows.length from by rw [← HO4.out.eq, ptsOf_len])
      obtain ⟨o, ho⟩ : ∃ o, idxG (txtG gs) (printL kl) = o := ⟨_, rfl⟩
      have HOP : Hid (idxG (txtG gs) (printL (keepL ns l)) = o) := Lib.hid (by rw [HKL.out]; exact ho)
      simp only [ho] at hlk
      obtain ⟨w8, hrun8, hm8, hg8⟩ := HMP4.out.put (by have := HO4.out.len; omega) htm (show I64 (rows.length : Int) by have := HO4.out.len; unfold I64; omega)
      rw [HTX.out] at hm8
      simp only [ho] at hm8
      have HRUN8 := Lib.hid hrun8; have HM8 := Lib.hid hm8; have HG8 := Lib.hid hg8
      clear hb4 HPR HOL3 HO3 HMP3 HBE3 HX3 ho hrun8 hm8 hg8
      cases o with
      | none =>
        have HEN := Lib.hid (show groupF kd ns (ptsOf (ra.take (k + 1))) = (gs ++ [(kl, begunF kd val)], 0) by rw [HNX.out, HER.out, stepG_none HOP.out, HKL.out])
        have HBG := Lib.hid (fun V => begun_any kd val V)
        have HVN := Lib.hid (show I64 (begunF kd val) ∧ (kd = 20 → begunF kd val ≤ (k + 1 : Nat)) from ⟨begun_in HI64.out, fun e => by unfold begunF; rw [if_pos e]; omega⟩)
        obtain ⟨vl, hvl⟩ : ∃ v, begunF kd val = v := ⟨_, rfl⟩
        rw [hvl] at HEN HBG HVN
        have HM9 := Lib.hid (show IMap w8 bm (rows.length + 1) (fun t => (idxG (txtG (gs ++ [(kl, vl)])) t).map fun i => (i : Int)) (gs ++ [(kl, vl)]).length from by
          have h := HM8.out
          try simp only [Option.map_none, Option.isSome_none, Bool.false_eq_true, if_false] at h
          rw [show (gs ++ [(kl, vl)]).length = gs.length + 1 by simp]
          refine cast (congrArg (fun f => IMap w8 bm (rows.length + 1) f (gs.length + 1)) (funext fun t => ?_)) h
          unfold txtG
          rw [List.map_append, List.map_singleton, idxG_append]
          by_cases ht : t = printL kl
          · rw [if_pos ht, ht]
            have hz := HOP.out
            rw [HKL.out] at hz
            unfold txtG at hz
            simp only [hz]
            rw [if_pos trivial, List.length_map, HRL.out]; rfl
          · rw [if_neg ht]
            cases idxG (List.map (fun g => printL g.fst) gs) t with
            | some i => rfl
            | none => simp [Ne.symm ht])
        have hne : ∀ g, (Value.slice X rows.length cx).ownBlock = some g → g ≠ bm := fun g e => by
          have h1 := (HO4.out.at_.own.lt g e).1; have := HS1.out; omega
        have HNEB := Lib.hid hne
        have HO8 := Lib.hid (show OutAt W1.heap.size (.slice X rows.length cx) rows k gs w8 from
          have key : ∀ y m, OwnL w4 y m → OwnL w8 y m := by
            rintro y m ⟨A', c', rfl, h2⟩
            refine ⟨A', c', rfl, own_grown h2 HG8.out (fun g hg e => ?_)⟩
            injection e with e; subst e
            exact imap_ne HMP4.out h2 hg
          ⟨⟨own_grown HO4.out.at_.own HG8.out (fun g hg e => by injection e with e; exact HNEB.out g hg e.symm), fun x hx => key _ _ (HO4.out.at_.each x hx)⟩, HO4.out.len, HO4.out.sets, HO4.out.eq⟩)
        have HOL8 := Lib.hid (show OwnL w8 (.slice C2 sn d2) kl from by
          obtain ⟨A', c', e, h2⟩ := HOL4.out
          injection e with e1 _ e3; subst e1; subst e3
          exact ⟨_, _, by rw [HSN.out], own_grown h2 HG8.out (fun g hg e => by injection e with e; subst e; exact imap_ne HMP4.out h2 hg)⟩)
        have HBE8 := Lib.hid (HBE4.out.grown HG8.out HBE4.out.size (fun g e => by injection e with e; have := HBM.out; omega))
        have HX8 := Lib.hid (HX4.out.grown HG8.out (fun e => by injection e with e; have := HSZ1.out.2; omega))
        have HSZ8 := Lib.hid (Nat.le_trans HSZ4.out HG8.out.size)
        clear HM8 HG8 HNEB hne HER HNX HMP4 z0 z1 HX4 HO4 HOL4 HBE4 HAL
        have z0 := HX8.out.cell 0
        have z1 := HX8.out.cell 1
        simp only [List.getElem?_cons_zero, List.getElem?_cons_succ] at z0 z1
        go_wp2_with (at_mapUpdate; refine wpList_put_imap rfl (.tmp 39) (.tmp 40) (.tmp 42) 118 rfl (.map (some bm)) (.string tx) (.int .i64 rows.length) rfl rfl rfl w8 HRUN8.out ?_)
        (with_reducible refine (HBG.out _).mono ?_); rintro e w9 ⟨rfl, rfl⟩
        have hb5 := (Below.refl w8.heap.size w8).alloc (Nat.le_refl _) (.cells #[.slice C2 sn d2, .int .i64 vl] 43)
        have HO9 := Lib.hid (HO8.out.below hb5)
        have HM10 := Lib.hid (HM9.out.below hb5)
        have HOL9 := Lib.hid (HOL8.out.below hb5)
        have HBE9 := Lib.hid (HBE8.out.trans (hb5.mono HBE8.out.size))
        have HSZ9 := Lib.hid (Nat.le_trans HSZ8.out hb5.size)
        have HX4 := Lib.hid ((Blk.mk (heap_alloc_new w8 (.cells #[.slice C2 sn d2, .int .i64 vl] 43)) : Blk _ w8.heap.size 43 [.slice C2 sn d2, .int .i64 vl]).sees (size := 2) (n := 1) rfl (List.prefix_refl _))
        clear hb5 HO8 HM9 HOL8 HBE8
        go_wp2_with (at_builtin; refine wpList_append_at rfl (.tmp 43) (.tmp 50) 38 rfl W1.heap.size 43 i0 (.agg #[.slice none 0 0, .int .i64 0]) 2 32 Tryz.underlying38 HI.out HZ0.out HZ1.out HZ2.out rfl (by decide) (.slice X rows.length cx) rows.length (pts rows) rfl HO9.out.at_.own _ (some ⟨w8.heap.size, 0, none⟩) 1 _ [.slice C2 sn d2, .int .i64 vl] rfl HX4.out (by intro u hu; simp at hu; rcases hu with rfl | rfl <;> rfl) (by unfold maxLen; have := HO9.out.len; omega) (by have := HO9.out.len; omega) HSZ9.out ?_)
        intro v' w10 hown hgr hwh
        have HO10 := Lib.hid (HO9.out.push (l := kl) (z := vl) HOL9.out (by rw [HSN.out]; exact hkl) hown hgr rfl)
        have HM11 := Lib.hid (HM10.out.kept hgr (fun e => by have h1 := (HO9.out.at_.own.lt bm e.symm).1; have := HS1.out; omega))
        have HBE10 := Lib.hid (HBE9.out.grown hgr HBE9.out.size (fun g e => by have h1 := (HO9.out.at_.own.lt g e).1; have := HBM.out; have := HS1.out; omega))
        have HSZ10 := Lib.hid (Nat.le_trans HSZ9.out hgr.size)
        obtain ⟨A5, c5, rfl, _, _⟩ := own_slice hown
        have HL5 := Lib.hid (show (rows ++ [(⟨.slice C2 sn d2, kl, vl⟩ : PtR)]).length = rows.length + 1 by simp)
        have HVS2 := Lib.hid (show ∀ p ∈ gs ++ [(kl, vl)], I64 p.2 ∧ (kd = 20 → p.2 ≤ (k + 1 : Nat)) from fun p hp => by
          rcases List.mem_append.1 hp with hp | hp
          · exact ⟨(HVS.out p hp).1, fun e => by have := (HVS.out p hp).2 e; omega⟩
          · rw [List.mem_singleton] at hp; subst hp; exact HVN.out)
        clear hown hgr hwh HO9 HOL9 HBE9 HM10 HX4 HX8 z0 z1
        go_wp2_with fail
        go_roundg g
        case measure => omega
        case rel => exact ⟨k + 1, A5, c5, _, _, by omega, by first | rfl | go_num, by rw [HL5.out], by rw [HL5.out]; exact HO10.out, HEN.out, HVS2.out, by rw [HL5.out]; exact HM11.out, HBE10.out, HSZ10.out⟩
      | some i =>
        obtain ⟨hi1, hi2⟩ := idxG_some HOP.out
        have hir : i < rows.length := by rw [← HRL.out]; simpa [txtG] using hi1
        obtain ⟨g0, hXX, hg0, hg0l, hfz⟩ := HO4.out.form (by omega)
        subst hXX
        have hadd := add_mkV g0 (i * 2)
        obtain ⟨ad0, had, y0, y1, y2⟩ := pt_get HO4.out.at_ hir
        injection had with had; subst had
        rw [hadd] at y1
        have hgs : gs[i]? = some (rows[i].set, rows[i].val) := by rw [← HO4.out.eq]; unfold ptsOf; rw [List.getElem?_map, List.getElem?_eq_getElem hir]; rfl
        have HVI := Lib.hid (HVS.out _ (List.mem_of_getElem? hgs))
        have HST := Lib.hid (fun (V : World) (hV : Below w4.heap.size w4 V) v => (HO4.out.below hV).store hir v (ps' := gs.set i (rows[i].set, v)) rfl)
        have HSG := Lib.hid (stepG_some (kd := kd) (p := (l, val)) HOP.out hgs)
        have HTG := Lib.hid (fun v => txtG_set hgs v)
        have HLR := Lib.hid (show ∀ v, (rows.set i ⟨rows[i].sv, rows[i].set, v⟩).length = rows.length from fun v => List.length_set)
        have hirI : (i : Int) < rows.length := by omega
        have hg0lw : w.heap.size ≤ g0 := by have := HBM.out; have := HS1.out; omega
        have hg0b : bm < g0 := by have := HS1.out; omega
        generalize hvb : rows[i].val = vb at *
        have hc20 : kd = 20 → vb + 1 ≤ 9223372036854775807 := fun e => by have := HVI.out.2 e; simp only at this; omega
        have HGT := Lib.hid (fun V => gathered_any kd vb val V HVI.out.1 HI64.out hc20)
        have hgin := gather_in HVI.out.1 HI64.out hc20
        have hgc : kd = 20 → (gatherF kd vb val).1 ≤ (k + 1 : Nat) := fun e => by
          have := HVI.out.2 e
          simp only at this
          subst e
          show vb + 1 ≤ _
          omega
        obtain ⟨⟨vl, er⟩, hgt⟩ : ∃ p, gatherF kd vb val = p := ⟨_, rfl⟩
        have HEN := Lib.hid (show groupF kd ns (ptsOf (ra.take (k + 1))) = if er = 0 then (gs.set i (rows[i].set, vl), 0) else ([], er) by
          rw [HNX.out, HER.out, HSG.out]; simp only [hgt])
        simp only [hgt] at HGT hgin hgc
        have HGI := Lib.hid (And.intro hgin hgc)
        clear hgin hgc hgt hc20 hvb hgs hi1 hi2 y0 y2 HSG HNX HER HM8 HG8 HRUN8 HOL4 hg0 hadd
        have hadd := add_mkV g0 (i * 2)
        go_upto_region 12 with fail
        go_quiet ((go_at_call 150; exact calls_quiet (HGT.out _)))
        have HST5 := Lib.hid (HST.out _ (below_drewN2 (Below.refl _ _) nq) vl)
        have HBE5 := Lib.hid (below_drewN2 HBE4.out nq)
        have HMP5 := Lib.hid (HMP4.out.drewN nq)
        by_cases he0 : er = 0
        case neg =>
          have HE0 := Lib.hid he0
          have t1 : (er == 0) = false := int_ne9 he0
          have t2 : (er != 0) = true := by simp [bne, t1]
          have HG : Hid (PtsAnsE (groupR kd ns (ptsOf ra)) w (.returned (.tuple #[.slice none 0 0, .int .i64 er])) (w4.drewN nq)) := Lib.hid (.fault (by
            have h0 := HEN.out
            rw [if_neg HE0.out] at h0
            have h1 := HHI.out k HLT.out (by rw [h0]; exact HE0.out)
            rw [HRS.out, h1, h0, if_neg HE0.out]) HBE5.out)
          clear he0 HEN HST HST5 HBE5 HMP5 HBE4 HMP4
          go_wp2_with fail
          go_ret2
          exact HG.out
        case pos =>
          subst he0
          have HEN2 := Lib.hid (show groupF kd ns (ptsOf (ra.take (k + 1))) = (gs.set i (rows[i].set, vl), 0) by rw [HEN.out, if_pos rfl])
          have HHL := Lib.hid (And.intro hg0l hg0lw)
          have hb0 := HBE5.out.setCell (p := ⟨g0, i * 2 + 1, none⟩) hg0lw (.int .i64 vl)
          have HBE6 := Lib.hid hb0
          have HMP6 := Lib.hid (HMP5.out.kept (row := some g0) (only_setCell (World.grownBy.refl _ (some g0)) (p := ⟨g0, i * 2 + 1, none⟩) (.inl rfl) (.int .i64 vl)) (fun e => by injection e with e; have := HS1.out; omega))
          have hf1 := hfz (i * 2 + 1)
          have HSZ6 := HSZ4
          clear HST hb0 HMP5 HBE5 HMP4 HBE4 HEN
          have HVS2 := Lib.hid (show ∀ p ∈ gs.set i (rows[i].set, vl), I64 p.2 ∧ (kd = 20 → p.2 ≤ (k + 1 : Nat)) from fun p hp => by
            rcases List.mem_or_eq_of_mem_set hp with hp | rfl
            · exact ⟨(HVS.out p hp).1, fun e => by have := (HVS.out p hp).2 e; omega⟩
            · exact HGI.out)
          have HOF := Lib.hid (show OutAt W1.heap.size (.slice (some ⟨g0, 0, none⟩) rows.length cx) (rows.set i ⟨rows[i].sv, rows[i].set, vl⟩) (k + 1) (gs.set i (rows[i].set, vl)) _ from ⟨HST5.out.at_, Nat.le_succ_of_le HST5.out.len, HST5.out.sets, HST5.out.eq⟩)
          have HMF := Lib.hid (show IMap ((w4.drewN nq).setCell ⟨g0, i * 2 + 1, none⟩ (.int .i64 vl)) bm rows.length (fun t => (idxG (txtG (gs.set i (rows[i].set, vl))) t).map fun i => (i : Int)) (gs.set i (rows[i].set, vl)).length from by rw [HTG.out, List.length_set]; exact HMP6.out)
          clear HVS HGI HST5 HMP6
          go_upto_region 15 with fail
          go_wp2_with fail
          go_roundg g
          case measure => omega
          case rel => exact ⟨k + 1, some ⟨g0, 0, none⟩, cx, rows.set i ⟨rows[i].sv, rows[i].set, vl⟩, gs.set i (rows[i].set, vl), by omega, by first | rfl | go_num, by rw [HLR.out], by rw [HLR.out]; exact HOF.out, HEN2.out, HVS2.out, by rw [HLR.out]; exact HMF.out, HBE6.out, by have := HSZ6.out; simpa [World.setCell] using this⟩
end Go.Proofs.YtlmakdclebbbkaaGreat

namespace Go.Proofs.YtlmakdclebbbkaaGreat
open Go.ChangeShapes Go.WideShapes Go.ChangeAt Go.RowKit
set_option linter.unusedVariables false
set_option linter.unusedSimpArgs false
set_option maxRecDepth 100000
def VAt (ps : List Pt) (v : Value) (W : World) : Prop := ∃ A c rows, v = .slice A rows.length c ∧ ptsOf rows = ps ∧ PtsAt 0 (.slice A rows.length c) rows W ∧ rows.length ≤ c ∧ c ≤ 9223372036854775807
theorem VAt.below {ps : List Pt} {v : Value} {W W' : World} (h : VAt ps v W) (hb : Below W.heap.size W W') : VAt ps v W' := by
  obtain ⟨A, c, rows, h1, h2, h3, h4⟩ := h; exact ⟨A, c, rows, h1, h2, h3.below hb, h4⟩
theorem VAt.nil (W : World) : VAt [] (.slice none 0 0) W := ⟨none, 0, [], rfl, rfl, PtsAt.nil _ _, Nat.le_refl _, by omega⟩
theorem vat_of {ps : List Pt} {w w' : World} {e : Ending} (h : PtsAns ps w e w') : ∃ v, e = .returned v ∧ VAt ps v w' ∧ Below w.heap.size w w' := by
  obtain ⟨A, c, rows, h1, h2, h3, h4, h5, h6⟩ := h
  exact ⟨_, h2, ⟨A, c, rows, rfl, h1, h3.mono (Nat.zero_le _), h5, h6⟩, h4⟩
theorem vat_ofE {r : List Pt × Int} {L : List Pt} {er : Int} {w w' : World} {e : Ending} (hr : r = (L, er)) (h : PtsAnsE r w e w') : ∃ v, e = .returned (.tuple #[v, .int .i64 er]) ∧ VAt L v w' ∧ Below w.heap.size w w' := by
  subst hr
  obtain ⟨A, c, rows, h1, h2, h3, h4, h5, h6⟩ := h
  exact ⟨_, h2, ⟨A, c, rows, rfl, h1, h3.mono (Nat.zero_le _), h5, h6⟩, h4⟩
structure Fine (ps : List Pt) : Prop where
  sets : ∀ p ∈ ps, p.1.length ≤ 1000
  vals : ∀ p ∈ ps, I64 p.2
theorem Fine.sub {ps qs : List Pt} (h : Fine ps) (hs : ∀ p ∈ qs, p ∈ ps) : Fine qs := ⟨fun p hp => h.sets p (hs p hp), fun p hp => h.vals p (hs p hp)⟩
theorem Fine.app {ps qs : List Pt} (h : Fine ps) (h2 : Fine qs) : Fine (ps ++ qs) := ⟨fun p hp => (List.mem_append.1 hp).elim (h.sets p) (h2.sets p), fun p hp => (List.mem_append.1 hp).elim (h.vals p) (h2.vals p)⟩
theorem Fine.sort {ps : List Pt} (h : Fine ps) : Fine (sortP ps) := h.sub fun p hp => sortP_mem.1 hp
theorem Fine.nil : Fine [] := ⟨fun p hp => absurd hp List.not_mem_nil, fun p hp => absurd hp List.not_mem_nil⟩
def VAns (ps : List Pt) (w : World) (e : Ending) (w' : World) : Prop := ∃ v, e = .returned v ∧ VAt ps v w' ∧ Below w.heap.size w w'
def VAnsE (ps : List Pt) (er : Int) (w : World) (e : Ending) (w' : World) : Prop := ∃ v, e = .returned (.tuple #[v, .int .i64 er]) ∧ VAt ps v w' ∧ Below w.heap.size w w'
section
variable {x y : Value} {ps qs L : List Pt} {er : Int} {W : World}
theorem logic_v (k : Int) (hr : logicR k ps qs = (L, er)) (hx : VAt ps x W) (hy : VAt qs y W) (hl : ps.length + qs.length ≤ 1000) (hf : Fine ps) (hg : Fine qs) : Calls Tryz.prog 27 #[.int .i64 k, x, y] W (VAnsE L er W) := by
  obtain ⟨A, c, rows, rfl, rfl, h3, _⟩ := hx
  obtain ⟨B, d, rb, rfl, rfl, h4, _⟩ := hy
  exact (logic_any 0 0 A B c d rows rb k W h3 h4 (by rw [ptsOf_len, ptsOf_len] at hl; omega) ((sets_iff rows 1000).2 hf.sets) ((sets_iff rb 1000).2 hg.sets)).mono fun e w' h => vat_ofE hr h
theorem filter_v (k : Int) (hr : filterR k ps qs = (L, er)) (hx : VAt ps x W) (hy : VAt qs y W) (hl : ps.length + qs.length ≤ 1000) (hf : Fine ps) (hg : Fine qs) : Calls Tryz.prog 26 #[.int .i64 k, x, y] W (VAnsE L er W) := by
  obtain ⟨A, c, rows, rfl, rfl, h3, _⟩ := hx
  obtain ⟨B, d, rb, rfl, rfl, h4, _⟩ := hy
  rw [ptsOf_len, ptsOf_len] at hl
  exact (filter_any 0 0 A B c d rows rb k W h3 h4 (by omega) (by omega) ((sets_iff rows 1000).2 hf.sets) ((sets_iff rb 1000).2 hg.sets) ((vals_iff rows).2 hf.vals) ((vals_iff rb).2 hg.vals)).mono fun e w' h => vat_ofE hr h
theorem math_v (k : Int) (hr : mathR k ps qs = (L, er)) (hx : VAt ps x W) (hy : VAt qs y W) (hl : ps.length + qs.length ≤ 1000) (hf : Fine ps) (hg : Fine qs) : Calls Tryz.prog 25 #[.int .i64 k, x, y] W (VAnsE L er W) := by
  obtain ⟨A, c, rows, rfl, rfl, h3, _⟩ := hx
  obtain ⟨B, d, rb, rfl, rfl, h4, _⟩ := hy
  rw [ptsOf_len, ptsOf_len] at hl
  exact (math_any 0 0 A B c d rows rb k W h3 h4 (by omega) (by omega) ((sets_iff rows 1000).2 hf.sets) ((sets_iff rb 1000).2 hg.sets) ((vals_iff rows).2 hf.vals) ((vals_iff rb).2 hg.vals)).mono fun e w' h => vat_ofE hr h
theorem scale_v (k n : Int) (first : Bool) (hr : scaleR k n first ps = (L, er)) (hx : VAt ps x W) (hl : ps.length ≤ 1000) (hf : Fine ps) (hn : I64 n) : Calls Tryz.prog 151 #[.int .i64 k, x, .int .i64 n, .bool first] W (VAnsE L er W) := by
  obtain ⟨A, c, rows, rfl, rfl, h3, _⟩ := hx
  rw [ptsOf_len] at hl
  cases first with
  | false => exact (scale_f 0 A c rows k n W h3 hl ((sets_iff rows 1000).2 hf.sets) ((vals_iff rows).2 hf.vals) hn).mono fun e w' h => vat_ofE hr h
  | true => exact (scale_t 0 A c rows k n W h3 hl ((sets_iff rows 1000).2 hf.sets) ((vals_iff rows).2 hf.vals) hn).mono fun e w' h => vat_ofE hr h
theorem above_v (k n : Int) (hx : VAt ps x W) (hl : ps.length ≤ 1000) (hf : Fine ps) : Calls Tryz.prog 152 #[.int .i64 k, x, .int .i64 n] W (VAns (sortP (aboveF k n ps)) W) := by
  obtain ⟨A, c, rows, rfl, rfl, h3, _⟩ := hx
  exact (above_any 0 A c rows k n W h3 (by rw [ptsOf_len] at hl; omega) ((sets_iff rows 1000).2 hf.sets)).mono fun e w' h => vat_of h
theorem group_v (k : Int) (AN : Option Addr) (nn cn : Nat) (ns : List ByteArray) (hr : groupR k ns ps = (L, er)) (hns : Sees W W.heap.size 1 AN nn (strs ns)) (hnn : nn ≤ 9223372036854775807) (hx : VAt ps x W) (hl : ps.length ≤ 1000) (hf : Fine ps) : Calls Tryz.prog 115 #[.int .i64 k, .slice AN nn cn, x] W (VAnsE L er W) := by
  obtain ⟨A, c, rows, rfl, rfl, h3, _⟩ := hx
  exact (group_any 0 A AN c nn cn rows ns k W h3 hns hnn (by rw [ptsOf_len] at hl; omega) ((sets_iff rows 1000).2 hf.sets) ((vals_iff rows).2 hf.vals)).mono fun e w' h => vat_ofE hr h
theorem points_v (hx : VAt ps x W) (hy : VAt qs y W) : Calls Tryz.prog 11 #[x, y] W fun e w' => e = .returned (.bool (decide (ps = qs))) ∧ Below W.heap.size W w' := by
  obtain ⟨A, c, rows, rfl, rfl, h3, _⟩ := hx
  obtain ⟨B, d, rb, rfl, rfl, h4, _⟩ := hy
  exact points_any 0 0 A B c d rows rb W h3 h4
end
theorem AKSetsF.more {w : World} {B B' : Nat} {A : Option Addr} {qs : List KSet} (h : AKSetsF w B A qs) (hb : B ≤ B') : AKSetsF w B' A qs := fun i hi => by
  obtain ⟨ad, e, hB, c0, c1, hk⟩ := h i hi
  exact ⟨ad, e, by omega, c0, c1, ⟨hk.has_.more hb, hk.hasI, hk.n_, hk.vals_.more hb, hk.valsI, hk.n2_⟩⟩
end Go.Proofs.YtlmakdclebbbkaaGreat
