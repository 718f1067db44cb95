/- klaxonref7.Two: a vector compared with a number. -/
import Derived.Test.YtbndmmfpoljeaaaRef7f
import Derived.Test.YtbndmmfpoljeaaaVecStart
namespace Go.Proofs.Ytbndmmfpoljeaaa
open Go.ChangeShapes Go.WideShapes Go.ChangeAt Go.RowKit
set_option linter.unusedVariables false
set_option linter.unusedSimpArgs false
set_option maxRecDepth 100000
def aboveS (k n : Int) (p : Pt) : Option (List Lbl × (Int × Int)) := if holdsF k p.2 n = true then some (p.1, (p.2, 0)) else none
def aboveR (k n : Int) (ps : List Pt) : List Pt × Int := resF (aboveS k n) ps
set_option maxHeartbeats 8000000 in
theorem two_cn (base : Nat) (B : Option Addr) (cb : Nat) (rb : List PtR) (k n : Int) (w0 : World) (h : PtsAt base (.slice B rb.length cb) rb w0) (hc : rb.length ≤ cb) (hB : rb.length ≤ 19) (hs : SetsOk rb) (hv : ∀ p ∈ rb, I64 p.val) (wn : I64 n) (h1 : 8 ≤ k) (h2 : k ≤ 13) :
    Calls Try.prog 16 #[.int .i64 k, .agg #[.int .i64 2, .int .i64 0, .slice B rb.length cb], .agg #[.int .i64 1, .int .i64 n, .slice none 0 0]] w0 (TwoAns (aboveR k n (ptsOf rb)) w0) := by
  obtain ⟨i0, hi, hz0, hz1, hz2⟩ := info_parts Try.infoPt
  have HI := Lib.hid hi; have HZ0 := Lib.hid hz0; have HZ1 := Lib.hid hz1; have HZ2 := Lib.hid hz2
  clear hi hz0 hz1 hz2
  have HPB := Lib.hid (fun (V : World) (hV : Below w0.heap.size w0 V) => h.below hV)
  have HS := Lib.hid hs; have HV := Lib.hid hv; have WN := Lib.hid wn; have HK := Lib.hid (And.intro h1 h2)
  have HTW := Lib.hid (fun (V : World) (hV : Below w0.heap.size w0 V) => twice_r B rb.length cb rb V (PtsS.of (h.below hV)) rfl (by omega) hc hs)
  have HST := Lib.hid (TwAt.start w0 (.int .i64 2) (.int .i64 0) (.slice B rb.length cb) (.int .i64 1) (.int .i64 n) (.slice none 0 0))
  obtain ⟨F, hF⟩ : ∃ F, aboveS k n = F := ⟨_, rfl⟩
  obtain ⟨tw, htw⟩ : ∃ b, twiceF (keysOf rb) = b := ⟨_, rfl⟩
  have HR : Hid (aboveR k n (ptsOf rb) = resF F (ptsOf rb)) := Lib.hid (by unfold aboveR; rw [hF])
  have HFI := Lib.hid (fun (p : Pt) => show F p = if holdsF k p.2 n = true then some (p.1, (p.2, 0)) else none by rw [← hF]; rfl)
  rw [htw] at HTW
  have hk7 : ¬ k ≤ 7 := by omega
  have t15 : (k == 15) = false := by rw [beq_eq_false_iff_ne]; omega
  clear h hs hv wn hF htw h1 h2
  obtain ⟨N, hN⟩ : ∃ N, rb.length = N := ⟨_, rfl⟩
  have HN := Lib.hid hN
  rw [hN] at HPB HTW HST hc hB ⊢
  clear hN
  go_enter Try.func16, Try.ntmps16
  go_upto_region 1 with fail
  obtain ⟨b6, hb6⟩ : ∃ b, w0.heap.size + 1 + 1 = b := ⟨_, rfl⟩
  obtain ⟨b5, hb5⟩ : ∃ b, w0.heap.size + 1 = b := ⟨_, rfl⟩
  obtain ⟨b4, hb4⟩ : ∃ b, w0.heap.size = b := ⟨_, rfl⟩
  obtain ⟨W1, hW1⟩ : ∃ W, (((w0.alloc (.cells #[.int .i64 2, .int .i64 0, .slice B N cb] 41)).alloc (.cells #[.int .i64 1, .int .i64 n, .slice none 0 0] 41)).alloc (.cells #[.int .i64 0, .int .i64 0, .slice none 0 0] 41)) = W := ⟨_, rfl⟩
  have HT1 := Lib.hid (show TwAt w0 b4 b5 b6 [.int .i64 2, .int .i64 0, .slice B N cb] [.int .i64 1, .int .i64 n, .slice none 0 0] W1 by have h := HST.out; rw [hW1, hb6, hb5, hb4] at h; exact h)
  rw [hb6, hb5, hb4, hW1]
  clear HST hb6 hb5 hb4 hW1
  have a0 := HT1.out.x4.cell 0; have a1 := HT1.out.x4.cell 1; have a2 := HT1.out.x4.cell 2
  have d0 := HT1.out.x5.cell 0; have d1 := HT1.out.x5.cell 1; have d2 := HT1.out.x5.cell 2
  simp only [List.getElem?_cons_zero, List.getElem?_cons_succ] at a0 a1 a2 d0 d1 d2
  go_upto_region 7 with fail
  go_cut [78] (fun t wx => t = .bool false ∧ TwAt w0 b4 b5 b6 [.int .i64 2, .int .i64 0, .slice B N cb] [.int .i64 1, .int .i64 n, .slice none 0 0] wx)
  case first =>
    go_wp2_with fail
    (with_reducible refine (HTW.out _ HT1.out.bel).mono ?_); rintro e w1 ⟨rfl, hb⟩
    have HT2 := Lib.hid (HT1.out.below hb)
    clear hb HT1 HTW a0 a1 a2 d0 d1 d2
    have d0 := HT2.out.x5.cell 0
    simp only [List.getElem?_cons_zero, List.getElem?_cons_succ] at d0
    cases tw with
    | true =>
      go_wp2_with fail
      go_meet
      exact ⟨rfl, HT2.out⟩
    | false =>
      go_wp2_with fail
      go_meet
      exact ⟨rfl, HT2.out⟩
  obtain ⟨rfl, ht2⟩ := hcut
  have HT2 := Lib.hid ht2
  clear ht2 HT1 HTW a0 a1 a2 d0 d1 d2
  have HRS : Hid (aboveR k n (ptsOf rb) = resF F (ptsOf rb)) := Lib.hid (by rw [HR.out])
  have HAN := Lib.hid (fun j hj => And.intro (outF_next F rb j hj) (errF_next F rb j hj))
  have d0 := HT2.out.x5.cell 0; have d1 := HT2.out.x5.cell 1; have d2 := HT2.out.x5.cell 2
  have a0 := HT2.out.x4.cell 0; have a1 := HT2.out.x4.cell 1; have a2 := HT2.out.x4.cell 2
  simp only [List.getElem?_cons_zero, List.getElem?_cons_succ] at d0 d1 d2 a0 a1 a2
  go_wp2_with fail
  clear d0 d1 d2 a0 a1 a2
  go_loopg [11, 118] N (fun g x11 x118 wr => ∃ (j : Nat) (X : Option Addr) (cx : Nat) (rows : List PtR), j + g = N ∧ x118 = .int .i64 j ∧ x11 = .slice X rows.length cx ∧ OutAt wc.heap.size (.slice X rows.length cx) rows j (outF F (ptsOf (rb.take j))) wr ∧ errF F (ptsOf (rb.take j)) = 0 ∧ Below wc.heap.size wc wr ∧ SetsOk rows)
  case atStart => exact ⟨0, none, 0, [], by omega, rfl, rfl, OutAt.nil _ _, rfl, Below.refl _ _, fun p hp => absurd hp List.not_mem_nil⟩
  case round =>
    obtain ⟨j, X, cx, rows, hjg, rfl, rfl, ho, her, hbel, hsk⟩ := hrel
    have HO := Lib.hid ho; have HBE := Lib.hid hbel; have HER := Lib.hid her; have HSK := Lib.hid hsk; have HJG := Lib.hid hjg
    have HT3 := Lib.hid (HT2.out.below hbel)
    have HBW := HT3.out.bel
    clear ho hbel her hsk
    cases gk with
    | zero =>
      obtain rfl : j = N := by omega
      have HC := Lib.hid (sorted_r wc.heap.size X rows.length cx rows wr HO.out.at_ rfl (by have := HO.out.len; omega) HSK.out)
      have HF : Hid (aboveR k n (ptsOf rb) = (sortP (ptsOf rows), 0)) := Lib.hid (by
        have e1 := HO.out.eq
        have e2 := HER.out
        rw [List.take_of_length_le (by rw [HN.out]; exact Nat.le_refl _)] at e1 e2
        rw [HRS.out, resF, if_pos e2, e1])
      clear HO HBW HER
      go_wp2_with fail
      (with_reducible refine HC.out.mono ?_); rintro e w9 ⟨Y, cy, ry, h1, rfl, h3, h4, h5, h6⟩
      have HT4 := Lib.hid (HT3.out.below h4)
      have HE := Lib.hid (two_end (rows := ry) (A := Y) (c := cy) (r := (sortP (ptsOf rows), 0)) HT4.out.x6 HT4.out.le HT4.out.bel h3 HT3.out.bel.size ⟨h5, h6⟩ h1 2)
      clear h1 h3 h4 h5 h6 HC HT3
      obtain ⟨⟨g0, g1, g2⟩, y0, y1, y2⟩ := two_cells HT4.out.x6 (.int .i64 2) (.int .i64 0)
      go_wp2_with fail
      clear g0 g1 g2 y0 y1 y2
      generalize ((w9.setCell ⟨b6, 0, none⟩ (.int .i64 2)).setCell ⟨b6, 1, none⟩ (.int .i64 0)).setCell ⟨b6, 2, none⟩ (.slice Y ry.length cy) = Wz at *
      have q0 := HE.out.1.cell 0; have q1 := HE.out.1.cell 1; have q2 := HE.out.1.cell 2
      simp only [List.getElem?_cons_zero, List.getElem?_cons_succ] at q0 q1 q2
      refine bodyPost_ret (v := .tuple #[.agg #[.int .i64 2, .int .i64 0, .slice Y ry.length cy], .int .i64 0]) (by simp [results, Try.results16, go_sem, q0, q1, q2]) rfl ?_
      rw [HF.out]
      exact HE.out.2
    | succ g =>
      have hlt : j < rb.length := by have := HN.out; omega
      have HRP := HPB.out wr HBW
      obtain ⟨ad, hA, e0, e1, hu9⟩ := HRP.get2 hlt
      clear hu9
      have hol := HRP.each rb[j] (List.getElem_mem hlt)
      obtain ⟨hl, hlx⟩ := HS.out rb[j] (List.getElem_mem hlt)
      have HNX := Lib.hid (HAN.out j hlt)
      have HOV := Lib.hid (fun (V : World) (hV : Below w0.heap.size w0 V) => (HPB.out V hV).each rb[j] (List.getElem_mem hlt))
      subst hA
      have hi64 := HV.out rb[j] (List.getElem_mem hlt)
      have HLT := Lib.hid hlt
      generalize rb[j] = q at *
      obtain ⟨sv, l, val⟩ := q
      simp only at e0 e1 hol hl hlx hi64
      obtain ⟨A2, c2, hsv, hss, hu8, hu9⟩ := hol.hasL
      clear hu8 hu9
      subst hsv
      obtain ⟨sl, hsl⟩ : ∃ m, l.length = m := ⟨_, rfl⟩
      have HSE := Lib.hid hsl
      have HLX := Lib.hid hlx
      rw [hsl] at e0 hss hl hol
      have ha := (Below.refl wr.heap.size wr).alloc (Nat.le_refl _) (.cells #[.slice A2 sl c2, .int .i64 val] 28)
      have HX2 := Lib.hid (Blk.mk (heap_alloc_new wr (.cells #[.slice A2 sl c2, .int .i64 val] 28)) : Blk _ wr.heap.size 28 [.slice A2 sl c2, .int .i64 val])
      have HNX1 := Lib.hid HNX.out.1
      have HNX3 := Lib.hid (HNX.out.2 HER.out)
      have HHO := Lib.hid (fun V => holds_r k val n V HK.out.1 HK.out.2)
      obtain ⟨hb, hhb⟩ : ∃ b, holdsF k val n = b := ⟨_, rfl⟩
      have HFH := Lib.hid (show F (l, val) = if hb = true then some (l, (val, 0)) else none by rw [HFI.out]; simp only [hhb])
      rw [hhb] at HHO
      have HO2 := Lib.hid (HO.out.below ha)
      have HBE2 := Lib.hid (HBE.out.trans (ha.mono HBE.out.size))
      have HT4 := Lib.hid (HT3.out.below ha)
      clear hss hol ha HO HBE HRP HBW hsl hhb HNX HER hi64 hlx HT3 hlt
      go_upto_region 23 with fail
      obtain ⟨bx, hbx⟩ : ∃ b, wr.heap.size = b := ⟨_, rfl⟩
      rw [hbx] at HX2
      rw [hbx]
      clear hbx e0 e1
      generalize wr.alloc (.cells #[.slice A2 sl c2, .int .i64 val] 28) = W2 at *
      have z0 := HX2.out.cell 0
      have z1 := HX2.out.cell 1
      have a1 := HT4.out.x5.cell 1; have a0 := HT4.out.x5.cell 0
      simp only [List.getElem?_cons_zero, List.getElem?_cons_succ] at z0 z1 a1 a0
      have h8 : 8 ≤ k := HK.out.1
      have h13 : k ≤ 13 := HK.out.2
      go_wp2_with fail
      (with_reducible refine (HHO.out _).mono ?_); rintro e w3 ⟨rfl, rfl⟩
      clear z0 z1 a1 a0
      cases hb with
      | false =>
        have hff : F (l, val) = none := by rw [HFH.out]; rfl
        have HO6 := Lib.hid (HO2.out.next (HNX1.out.trans (by simp only [hff]; simp)))
        have HE6 : Hid (errF F (ptsOf (rb.take (j + 1))) = 0) := Lib.hid (by rw [HNX3.out]; simp only [hff])
        clear HO2 hff
        go_wp2_with fail
        go_roundg g
        case measure => omega
        case rel => exact ⟨j + 1, X, cx, rows, by have := HJG.out; omega, by first | rfl | go_num, rfl, HO6.out, HE6.out, HBE2.out, HSK.out⟩
      | true =>
        have hff : F (l, val) = some (l, (val, 0)) := by rw [HFH.out]; rfl
        have HNX2 := Lib.hid HNX1.out
        have HEN : Hid (errF F (ptsOf (rb.take (j + 1))) = 0) := Lib.hid (by rw [HNX3.out]; simp only [hff])
        simp only [hff] at HNX2
        have hov := HOV.out W2 HT4.out.bel
        try simp only at hov
        rw [HSE.out] at hov
        have hb4 := (Below.refl W2.heap.size W2).alloc (Nat.le_refl _) (.cells #[.slice A2 sl c2, .int .i64 val] 28)
        have HO4 := Lib.hid (HO2.out.below hb4)
        have HOL4 := Lib.hid (hov.below hb4)
        have HBE4 := Lib.hid (HBE2.out.trans (hb4.mono HBE2.out.size))
        have HX4 := Lib.hid ((Blk.mk (heap_alloc_new W2 (.cells #[.slice A2 sl c2, .int .i64 val] 28)) : Blk _ W2.heap.size 28 [.slice A2 sl c2, .int .i64 val]).sees (size := 2) (n := 1) rfl (List.prefix_refl _))
        have hsl9 : l.length ≤ 1000 := by have := HSE.out; omega
        have HSL9 := Lib.hid hsl9
        clear hov hb4 HO2 HBE2 HNX1 HNX3 hff hsl9
        have z0 := HX2.out.cell 0; have z1 := HX2.out.cell 1
        simp only [List.getElem?_cons_zero, List.getElem?_cons_succ] at z0 z1
        go_wp2_with (at_builtin; refine wpList_append_at rfl (.tmp 197) (.tmp 199) 22 rfl wc.heap.size 28 i0 (.agg #[.slice none 0 0, .int .i64 0]) 2 32 Try.underlying22 HI.out HZ0.out HZ1.out HZ2.out rfl (by decide) (.slice X rows.length cx) rows.length (pts rows) rfl HO4.out.at_.own _ (some ⟨W2.heap.size, 0, none⟩) 1 _ [.slice A2 sl c2, .int .i64 val] rfl HX4.out (by intro u hu; simp at hu; rcases hu with rfl | rfl <;> rfl) (by unfold maxLen; have := HO4.out.len; omega) (by have := HO4.out.len; omega) HBE4.out.size ?_)
        intro v' w5 hown hgr hwh
        have HO2 := Lib.hid (HO4.out.push (l := l) (z := val) HOL4.out HSL9.out hown hgr HNX2.out)
        have HBE2 := Lib.hid (HBE4.out.grown hgr HBE4.out.size (fun g e => (HO4.out.at_.own.lt g e).1))
        obtain ⟨A5, c5, rfl, hu8, hu9⟩ := own_slice hown
        have HL5 := Lib.hid (show (rows ++ [(⟨.slice A2 sl c2, l, val⟩ : PtR)]).length = rows.length + 1 by simp)
        have HSK5 : Hid (SetsOk (rows ++ [(⟨.slice A2 sl c2, l, val⟩ : PtR)])) := Lib.hid (fun p hp => by
          rcases List.mem_append.1 hp with hp | hp
          · exact HSK.out p hp
          · rw [List.mem_singleton] at hp; subst hp
            exact ⟨HSL9.out, fun x hx => HLX.out x hx⟩)
        clear hown hgr hwh HO4 HOL4 HBE4 HX4 hu8 hu9 z0 z1
        go_wp2_with fail
        go_roundg g
        case measure => omega
        case rel => exact ⟨j + 1, A5, c5, _, by have := HJG.out; omega, by first | rfl | go_num, by rw [HL5.out], by rw [HL5.out]; exact HO2.out, HEN.out, HBE2.out, HSK5.out⟩
end Go.Proofs.Ytbndmmfpoljeaaa
