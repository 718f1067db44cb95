/- klaxonlaw4.SeriesChanges: the walk. -/
import Derived.Test.YtkodgecejljhkaaChgMath
import Derived.Test.YtkodgecejljhkaaBMap
import Derived.Deep.LoopGhost
import Derived.Deep.DeepCutAuto
namespace Go.Proofs.Ytkodgecejljhkaa
open Go.ChangeShapes Go.WideShapes Go.ChangeAt Go.RowKit
set_option linter.unusedVariables false
set_option maxRecDepth 100000
theorem Rises.less {a a' b : Int} {xs : List (Int × Int)} (h : Rises a b xs) (ha : a' ≤ a) : Rises a' b xs := by
  cases xs with
  | nil => trivial
  | cons x xs => exact ⟨by have := h.1; omega, h.2⟩
theorem rises_all {a b : Int} {xs : List (Int × Int)} (h : Rises a b xs) : ∀ x ∈ xs, a < x.1 ∧ x.1 ≤ b := by
  intro x hx
  obtain ⟨i, hi, rfl⟩ := List.getElem_of_mem hx
  exact rises_get h i hi
theorem map_step (C : List Int) (j : Nat) (h : j < C.length) : (fun x : Int => x == C[j] || decide (x ∈ C.take j)) = fun x => decide (x ∈ C.take (j + 1)) := by
  funext x
  have key : x ∈ C.take (j + 1) ↔ x = C[j] ∨ x ∈ C.take j := by
    rw [List.take_succ_eq_append_getElem h, List.mem_append, List.mem_singleton]; exact Or.comm
  rw [Bool.eq_iff_iff]
  simp only [Bool.or_eq_true, beq_iff_eq, decide_eq_true_eq]
  exact key.symm
set_option maxHeartbeats 8000000 in
theorem series_changes (A : Option Addr) (n c : Nat) (k0 f0 t0 : Int) (zs : List Int) (w : World) (hl : Sees w w.heap.size 1 A n (ints zs)) (hz : ∀ z ∈ zs, I64 z) (hn : n ≤ 9223372036854775807) (wk : I64 k0) (wf : I64 f0) (wt : I64 t0) :
    Calls Try.prog 3 #[.slice A n c, .int .i64 k0, .int .i64 f0, .int .i64 t0] w fun e w' => e = .returned (.bool true) ∧ Below w.heap.size w w' := by
  have HA0 := Lib.hid (new_ser (w := w))
  have hbx : Below w.heap.size w (w.alloc (.cells #[.slice none 0 0] 25)) := (Below.refl _ _).alloc (Nat.le_refl _) _
  have HSM := Lib.hid (samples_any A n c zs _ ((hl.below hbx).more (by simp) : Sees (w.alloc (.cells #[.slice none 0 0] 25)) _ 1 A n (ints zs)) hz hn)
  have HBX := Lib.hid hbx
  have hlen : (samplesOf 0 (zs.take 20)).length = min n 20 := by rw [samplesOf_length, List.length_take, hl.int_len]; omega
  have hri := samplesOf_rises 0 (zs.take 20) 240 (by rw [List.length_take]; omega)
  have hm20 : min n 20 ≤ 20 := Nat.min_le_right _ _
  generalize samplesOf 0 (zs.take 20) = L at *
  generalize min n 20 = m at *
  have HLL := Lib.hid hlen; have HRS := Lib.hid hri
  have WK := Lib.hid wk; have WF := Lib.hid wf; have WT := Lib.hid wt
  clear hl hz hn hlen hri wk wf wt hbx
  obtain ⟨hk1, hk2⟩ := nWithin_in k0 (lo := 1) (hi := 40) (by omega)
  obtain ⟨ha1, ha2⟩ := nWithin_in f0 (lo := 0) (hi := 200) (by omega)
  obtain ⟨hb1, hb2⟩ := nWithin_in t0 (lo := nWithin f0 0 200) (hi := 300) (by omega)
  have HWK : Hid (∀ w, Calls Try.prog 6 #[.int .i64 k0, .int .i64 1, .int .i64 40] w fun e w' => e = .returned (.int .i64 (nWithin k0 1 40)) ∧ w = w') := Lib.hid fun w => within_any k0 1 40 w WK.out (by omega) (by omega) (by omega)
  have HWF : Hid (∀ w, Calls Try.prog 6 #[.int .i64 f0, .int .i64 0, .int .i64 200] w fun e w' => e = .returned (.int .i64 (nWithin f0 0 200)) ∧ w = w') := Lib.hid fun w => within_any f0 0 200 w WF.out (by omega) (by omega) (by omega)
  have HWT : Hid (∀ w, Calls Try.prog 6 #[.int .i64 t0, .int .i64 (nWithin f0 0 200), .int .i64 300] w fun e w' => e = .returned (.int .i64 (nWithin t0 (nWithin f0 0 200) 300)) ∧ w = w') := Lib.hid fun w => within_any t0 _ 300 w WT.out (by omega) (by omega) (by omega)
  generalize nWithin t0 (nWithin f0 0 200) 300 = b at *
  generalize nWithin f0 0 200 = a at *
  generalize nWithin k0 1 40 = k at *
  have HCB := Lib.hid (mem_chg k a b L)
  have HCR := Lib.hid (chg_rises k a b hk1 L 0 240 HRS.out)
  have HCL := Lib.hid (chg_len k a b L)
  have hmm := @run_makeMap Try.prog
  obtain ⟨g, hg⟩ : ∃ g, w.heap.size = g := ⟨_, rfl⟩
  rw [hg] at HA0
  go_enter Try.func3, Try.ntmps3
  go_wp2_with fail
  refine HSM.out.mono ?_; rintro e w1 ⟨A1, c1, rfl, hown1, hbel1, hc1, hc2⟩
  have HA1 := Lib.hid (HA0.out.below hbel1)
  have hgs1 : g < w1.heap.size := HA1.out.1.lt
  have HLB := Lib.hid hown1.lt
  have HB1 := Lib.hid (HBX.out.trans (hbel1.mono (by simp)))
  have hs1 := HB1.out.size
  have HO1 := Lib.hid hown1
  have hgz : g < (w.alloc (.cells #[.slice none 0 0] 25)).heap.size := HA0.out.1.lt
  have HC1 := Lib.hid (add_any [] L g _ A1 m c1 w1 HA1.out (by simp) (Sees.of_own hown1) (by omega) hc1 hc2)
  clear hown1 hbel1 HSM HBX HA0
  go_wp2_with fail
  refine HC1.out.mono ?_; rintro e w2 ⟨v0, rfl, hat2, ho2⟩
  have h0 : addErr (lastT []) ([] : List (Int × Int)).length L = 0 := rises_add (HRS.out.less (by decide)) (by decide) (by decide) (by rw [HLL.out]; simp; omega)
  rw [h0] at hat2
  rw [h0]
  have hat3 : SerAt L w2 g v0 := hat2
  have HA2 := Lib.hid hat3
  have HB2 := Lib.hid (HB1.out.trans (ho2.below (show w.heap.size ≤ g by omega) hs1))
  have HO2 := Lib.hid (ho2.own HO1.out (fun e => by have := (HLB.out g e).1; omega))
  have HL2 := Lib.hid (Sees.of_own HO2.out)
  have hgs := hat3.1.lt
  have hs2 := HB2.out.size
  clear hat2 hat3 ho2 h0 HA1 HB1 HO1 HLB HO2 HC1 hgz hg
  go_wp2_with fail
  refine (HWK.out _).mono ?_; rintro e w' ⟨rfl, rfl⟩
  go_wp2_with fail
  refine (HWF.out _).mono ?_; rintro e w' ⟨rfl, rfl⟩
  go_wp2_with fail
  refine (HWT.out _).mono ?_; rintro e w' ⟨rfl, rfl⟩
  clear HWK HWF HWT WK WF WT
  have HCC := Lib.hid (changes_any L g v0 k a b w2 HA2.out (by rw [HLL.out]; omega) (by omega) (fun x hx => by have := rises_all HRS.out x hx; omega))
  generalize chg k a b L = C at *
  go_wp2_with fail
  refine HCC.out.mono ?_; rintro e w3 ⟨A3, c3, rfl, hown3, hbel3, hc31, hc32⟩
  have HB3 := Lib.hid (HB2.out.trans (hbel3.mono hs2))
  have hs3 := HB3.out.size
  have HS3 := Lib.hid (Sees.of_own hown3)
  have HA3 := Lib.hid (HA2.out.below hbel3)
  have HL3 := Lib.hid ((HL2.out.below hbel3).more hbel3.size)
  have hgs3 := HA3.out.1.lt
  obtain ⟨N, hN⟩ : ∃ N, C.length = N := ⟨_, rfl⟩
  have HN := Lib.hid hN
  rw [hN] at hc31 HS3 ⊢
  have hn40 : N ≤ 40 := by have h1 := HCL.out; have h2 := HLL.out; omega
  clear hown3 hbel3 HCC HB2 HA2 HL2 hgs hN HCL
  obtain ⟨bm, hbm⟩ : ∃ bm, w3.heap.size = bm := ⟨_, rfl⟩
  have HM0 := Lib.hid (show BMap (w3.alloc (.map #[] 0)) bm 0 (fun x => decide (x ∈ C.take 0)) by
    have := BMap.made w3
    rw [hbm] at this
    simpa using this)
  have HBA := Lib.hid ((Below.refl w3.heap.size w3).alloc (Nat.le_refl _) (.map #[] 0))
  go_wp2_with fail
  go_loopg [46] N (fun q x46 wr => ∃ j : Nat, j + q = N ∧ x46 = .int .i64 j ∧ BMap wr bm j (fun x => decide (x ∈ C.take j)) ∧ Below w3.heap.size w3 wr)
  case atStart => exact ⟨0, by omega, rfl, HM0.out, HBA.out⟩
  case round =>
    clear HM0 HBA
    obtain ⟨j, hjg, rfl, hmap, hbel⟩ := hrel
    have HM := Lib.hid hmap; have HB := Lib.hid hbel
    have hsz := hbel.size
    clear hmap hbel
    cases gk with
    | zero =>
      obtain rfl : j = N := by omega
      have HM1 := Lib.hid (show BMap wr bm j (fun x => decide (x ∈ C)) by have := HM.out; rw [List.take_of_length_le (by rw [HN.out]; exact Nat.le_refl _)] at this; exact this)
      clear HM hbm
      have HSAT := Lib.hid (HA3.out.below HB.out)
      have HLX := Lib.hid (HL3.out.below HB.out)
      have hbmlt := HM1.out.lt
      have HBW := Lib.hid (HB3.out.trans (HB.out.mono hs3))
      have hsw := HBW.out.size
      have hw3r : w3.heap.size ≤ wr.heap.size := hsz
      clear HS3 HA3 HL3 HB3 HB HCR
      obtain ⟨M, hM⟩ : ∃ M : Nat, (M : Int) = b - a + 1 := ⟨(b - a + 1).toNat, by omega⟩
      obtain ⟨wq, rfl⟩ : ∃ wq : World, wq = wr := ⟨_, rfl⟩
      go_wp2_with fail
      go_loopg [18] M (fun q x18 wo => ∃ t : Int, t + q = b + 1 ∧ a ≤ t ∧ x18 = .int .i64 t ∧ Below wq.heap.size wq wo)
      case atStart => exact ⟨a, by omega, by omega, rfl, Below.refl _ _⟩
      case round =>
        obtain ⟨t, htq, hta, rfl, hbel⟩ := hrel
        have HBO := Lib.hid hbel
        have hsq := hbel.size
        clear hbel
        cases gk with
        | zero =>
          have htb : ¬ t ≤ b := by omega
          have HBF := Lib.hid (HBW.out.trans (HBO.out.mono hsw))
          go_wp2_with fail
          refine (series_runs wr).mono ?_; rintro e w9 ⟨rfl, hb9⟩
          have HB9 := Lib.hid (HBF.out.trans (hb9.mono HBF.out.size))
          clear hb9
          go_wp2_with fail
          go_ret
          exact ⟨rfl, HB9.out⟩
        | succ q =>
          have htb : t ≤ b := by omega
          have HSAO := Lib.hid (HSAT.out.below HBO.out)
          have HLO := Lib.hid ((HLX.out.below (HBO.out.mono hw3r)).more (B' := wr.heap.size) (Nat.le_trans hw3r hsq))
          have HMO := Lib.hid (HM1.out.below HBO.out)
          have HAT1 := Lib.hid (at_any L g v0 t k wr HSAO.out (by rw [HLL.out]; omega) (by omega) (by omega))
          have HAT2 := Lib.hid (at_any L g v0 (t - 1) k wr HSAO.out (by rw [HLL.out]; omega) (by omega) (by omega))
          have hlk := HMO.out.look (t := t) (by unfold I64; omega)
          have HFT : Hid (decide (t ∈ C) = (sUp L t m || eUp L k t m)) := Lib.hid (by
            have := HCB.out t
            rw [HLL.out] at this
            rw [Bool.eq_iff_iff, decide_eq_true_eq, this, Bool.or_eq_true]
            exact ⟨fun h => h.2, fun h => ⟨⟨hta, htb⟩, h⟩⟩)
          have HSM : Hid (decide (t ∈ C) = false → atF L (t - 1) k = atF L t k) := Lib.hid fun h => by
            rw [HFT.out, Bool.or_eq_false_iff] at h
            exact (at_same (by rw [HLL.out]; exact h.1) (by rw [HLL.out]; exact h.2)).symm
          have HBO2 := Lib.hid (HBO.out)
          obtain ⟨f, hf⟩ : ∃ f, decide (t ∈ C) = f := ⟨_, rfl⟩
          rw [hf] at HFT HSM
          simp only [hf] at hlk
          have HFD := hf
          clear hf
          have hs0 : (false : Bool) = sUp L t 0 := rfl
          have he0 : (false : Bool) = eUp L k t 0 := rfl
          have HS0 := Lib.hid hs0; have HE0 := Lib.hid he0
          clear hs0 he0
          obtain ⟨w5, rfl⟩ : ∃ w5 : World, w5 = wr := ⟨_, rfl⟩
          have hml : 0 ≤ m := Nat.zero_le _
          go_wp2_with fail
          refine HAT1.out.mono ?_; rintro e w' ⟨rfl, rfl⟩
          go_wp2_with fail
          refine HAT2.out.mono ?_; rintro e w' ⟨rfl, rfl⟩
          have HQ : Hid (f = false → atF L (t - 1) k = atF L t k) := HSM
          cases f
          all_goals
            first
              | (rw [HQ.out rfl]
                 obtain ⟨p1, hp1⟩ : ∃ p1, atF L t k = p1 := ⟨_, rfl⟩
                 rw [hp1]
                 clear hp1
                 obtain ⟨z, o⟩ := p1
                 have hzz : (z != z) = false := by simp
                 have hoo : (o != o) = false := by simp)
              | (obtain ⟨p1, hp1⟩ : ∃ p1, atF L t k = p1 := ⟨_, rfl⟩
                 obtain ⟨p2, hp2⟩ : ∃ p2, atF L (t - 1) k = p2 := ⟨_, rfl⟩
                 rw [hp1, hp2]
                 clear hp1 hp2)
            clear HAT1 HAT2 HSM HQ
            go_wp2_with fail
            go_loopg [23, 24, 110] m (fun gi x23 x24 x110 wi => ∃ jj : Nat, jj + gi = m ∧ x110 = .int .i64 jj ∧ x23 = .bool (sUp L t jj) ∧ x24 = .bool (eUp L k t jj) ∧ Below w5.heap.size w5 wi)
            case atStart => exact ⟨0, by omega, rfl, by rw [← HS0.out], by rw [← HE0.out], Below.refl _ _⟩
            case round =>
              obtain ⟨jj, hjg, rfl, rfl, rfl, hbi⟩ := hrel
              have HBI := Lib.hid hbi
              have hsi := hbi.size
              clear hbi
              cases gk with
              | zero =>
                obtain rfl : jj = m := by omega
                have hlk2 := (HMO.out.below HBI.out).look (t := t) (by unfold I64; omega)
                have HBZ := Lib.hid (HBO.out.trans (HBI.out.mono hsq))
                have HFX := Lib.hid HFT.out
                obtain ⟨s9, hs9⟩ : ∃ s9, sUp L t jj = s9 := ⟨_, rfl⟩
                obtain ⟨e9, he9⟩ : ∃ e9, eUp L k t jj = e9 := ⟨_, rfl⟩
                rw [hs9, he9] at HFX ⊢
                simp only [HFD] at hlk2
                clear hs9 he9 hlk
                cases s9 <;> cases e9
                all_goals
                  first
                    | (exfalso; exact absurd HFX.out (by decide))
                    | (clear HFX
                       go_wp2_with fail
                       go_roundg q
                       case measure => omega
                       case rel => exact ⟨t + 1, by omega, by omega, by first | rfl | go_num, HBZ.out⟩)
              | succ gi =>
                have hlt : jj < m := by omega
                obtain ⟨ad, hjl, rfl, c0, c1⟩ := (HLO.out.below HBI.out).smp hlt
                have hal := World.block_lt_of_cell? wr _ c0
                have hyb := rises_all HRS.out L[jj] (List.getElem_mem _)
                obtain ⟨nx, hnx⟩ : ∃ nx, jj + 1 = nx := ⟨_, rfl⟩
                have hnxi : (jj : Int) + 1 = nx := by omega
                have HSN := Lib.hid (sUp_snoc L t jj)
                have HEN := Lib.hid (eUp_snoc L k t jj)
                rw [sAt_of hjl, hnx] at HSN
                rw [hnx] at HEN
                have HBA9 := Lib.hid (HBI.out.alloc hsi (.cells #[.int .i64 L[jj].1, .int .i64 L[jj].2] 35))
                have HLAST : Hid (nx = m → eAt L k t jj = (L[jj].1 + k == t)) := Lib.hid fun h => eAt_last hjl (by rw [HLL.out, hnx]; exact h)
                have HMID : Hid (∀ h : nx < L.length, eAt L k t jj = ((L[jj].1 + k == t) && decide (t < L[nx].1))) := Lib.hid fun h => by subst hnx; exact eAt_mid hjl h
                have HLW := Lib.hid (HLO.out.below HBI.out)
                obtain ⟨sp, hsp⟩ : ∃ sp, sUp L t jj = sp := ⟨_, rfl⟩
                obtain ⟨ep, hep⟩ : ∃ ep, eUp L k t jj = ep := ⟨_, rfl⟩
                obtain ⟨ea, hea⟩ : ∃ ea, eAt L k t jj = ea := ⟨_, rfl⟩
                rw [hsp] at HSN ⊢
                rw [hep, hea] at HEN
                rw [hep]
                rw [hea] at HLAST
                clear hsp hep
                generalize L[jj].1 = x at *
                generalize L[jj].2 = y at *
                obtain ⟨bx, hbx⟩ : ∃ bx, (x == t) = bx := ⟨_, rfl⟩
                rw [hbx] at HSN
                have HEAD := Lib.hid hea
                clear hea hnx hlk
                cases ep with
                | true =>
                  have HE9 : Hid (eUp L k t nx = true) := Lib.hid (by rw [HEN.out]; rfl)
                  clear HLAST HMID HEN
                  cases sp
                  all_goals
                    first | have HS9 : Hid (sUp L t nx = bx) := Lib.hid (by rw [HSN.out]; rfl) | have HS9 : Hid (sUp L t nx = true) := Lib.hid (by rw [HSN.out]; rfl)
                    clear HSN
                    go_wp2_with fail
                    go_roundg gi
                    case measure => omega
                    case rel => exact ⟨nx, by omega, by first | rfl | go_num, by rw [HS9.out], by rw [HE9.out], by first | exact HBA9.out | exact HBA9.out.drew | exact below_drewN3 HBA9.out _⟩
                | false =>
                  have HEQ : Hid (eUp L k t nx = ea) := Lib.hid (by rw [HEN.out]; rfl)
                  clear HEN
                  by_cases hr : x + k = t
                  · have hrb : (x + k == t) = true := by simp [hr]
                    by_cases hl : nx = m
                    · have hlb : ((nx : Int) == m) = true := by simp [hl]
                      have HE9 : Hid (eUp L k t nx = true) := Lib.hid (by rw [HEQ.out, HLAST.out hl, hrb])
                      clear HLAST HMID HEQ hr hl
                      cases sp
                      all_goals
                        first | have HS9 : Hid (sUp L t nx = bx) := Lib.hid (by rw [HSN.out]; rfl) | have HS9 : Hid (sUp L t nx = true) := Lib.hid (by rw [HSN.out]; rfl)
                        clear HSN
                        go_wp2_with fail
                        go_roundg gi
                        case measure => omega
                        case rel => exact ⟨nx, by omega, by first | rfl | go_num, by rw [HS9.out], by rw [HE9.out], by first | exact HBA9.out | exact HBA9.out.drew | exact below_drewN3 HBA9.out _⟩
                    · have hlb : ((nx : Int) == m) = false := by simp; omega
                      have hnl : nx < L.length := by rw [HLL.out]; omega
                      obtain ⟨ad2, hpl, had2, d0, d1⟩ := HLW.out.smp (show nx < m by omega)
                      injection had2 with had2; subst had2
                      have hal2 := World.block_lt_of_cell? wr _ d0
                      have hm2 := HMID.out hnl
                      rw [hrb, Bool.true_and, HEAD.out] at hm2
                      have HE9 : Hid (eUp L k t nx = decide (t < L[nx].1)) := Lib.hid (by rw [HEQ.out, hm2])
                      have hnm : (nx : Int) < m := by omega
                      have hn0 : (0 : Int) ≤ nx := by omega
                      clear HLAST HMID HEQ hr hl hm2
                      generalize L[nx].1 = x2 at *
                      generalize L[nx].2 = y2 at *
                      cases sp
                      all_goals
                        first | have HS9 : Hid (sUp L t nx = bx) := Lib.hid (by rw [HSN.out]; rfl) | have HS9 : Hid (sUp L t nx = true) := Lib.hid (by rw [HSN.out]; rfl)
                        clear HSN
                        go_wp2_with fail
                        go_roundg gi
                        case measure => omega
                        case rel => exact ⟨nx, by omega, by first | rfl | go_num, by rw [HS9.out], by rw [HE9.out], by first | exact HBA9.out | exact HBA9.out.drew | exact below_drewN3 HBA9.out _⟩
                  · have hrb : (x + k == t) = false := by simpa using hr
                    have HE9 : Hid (eUp L k t nx = false) := Lib.hid (by
                      by_cases hl : nx = m
                      · rw [HEQ.out, HLAST.out hl, hrb]
                      · rw [HEQ.out, ← HEAD.out, HMID.out (by rw [HLL.out]; omega), hrb, Bool.false_and])
                    clear HLAST HMID HEQ hr
                    cases sp
                    all_goals
                      first | have HS9 : Hid (sUp L t nx = bx) := Lib.hid (by rw [HSN.out]; rfl) | have HS9 : Hid (sUp L t nx = true) := Lib.hid (by rw [HSN.out]; rfl)
                      clear HSN
                      go_wp2_with fail
                      go_roundg gi
                      case measure => omega
                      case rel => exact ⟨nx, by omega, by first | rfl | go_num, by rw [HS9.out], by rw [HE9.out], by first | exact HBA9.out | exact HBA9.out.drew | exact below_drewN3 HBA9.out _⟩
    | succ q =>
      have hlt : j < N := by omega
      obtain ⟨ad, hjl, rfl, hc⟩ := (HS3.out.below HB.out).int hlt
      have hxm := (HCB.out C[j]).1 (List.getElem_mem _)
      obtain ⟨⟨hx1, hx2⟩, _⟩ := hxm
      obtain ⟨w4, hrun, hmap4, hg4⟩ := HM.out.put (by omega) (t := C[j]) (by unfold I64; omega)
      rw [map_step C j hjl] at hmap4
      have HM4 := Lib.hid hmap4
      have HB4 := Lib.hid (HB.out.grown hg4 hsz (fun b hb => by injection hb with hb; subst hb; omega))
      have HRUN := Lib.hid hrun
      clear hmap4 hg4 hrun
      rcases Nat.eq_zero_or_pos j with hj0 | hj0
      · have hd0 : ¬ 0 < j := by omega
        have HJ := Lib.hid hj0
        subst hj0
        have hc0 : wr.cell? ad = some (.int .i64 C[0]) := by simpa [Addr.add] using hc
        clear hc
        generalize C[0] = x at *
        go_wp2_with (at_mapUpdate; refine wpList_put_bmap rfl (.tmp 72) (.tmp 73) (.const (.bool true)) 31 rfl (.map (some bm)) (.int .i64 x) (.bool true) rfl rfl rfl w4 HRUN.out ?_)
        go_wp2_with fail
        go_roundg q
        case measure => omega
        case rel => exact ⟨1, by omega, rfl, HM4.out, HB4.out⟩
      · obtain ⟨p, hp⟩ : ∃ p, p + 1 = j := ⟨j - 1, by omega⟩
        obtain ⟨ad2, hpl, had2, d0⟩ := (HS3.out.below HB.out).int (show p < N by omega)
        injection had2 with had2; subst had2
        have hnx := chg_next HCR.out (i := p) (by rw [HN.out]; omega)
        have hnx2 : C[p] < C[j] := by have e := hp; subst e; exact hnx
        have hpi : (j : Int) - 1 = p := by omega
        have hp0 : (0 : Int) ≤ p := by omega
        have hpn : (p : Int) < N := by omega
        clear hnx hp
        generalize C[p] = y at *
        generalize C[j] = x at *
        go_wp2_with (at_mapUpdate; refine wpList_put_bmap rfl (.tmp 72) (.tmp 73) (.const (.bool true)) 31 rfl (.map (some bm)) (.int .i64 x) (.bool true) rfl rfl rfl w4 HRUN.out ?_)
        go_wp2_with fail
        go_roundg q
        case measure => omega
        case rel => exact ⟨j + 1, by omega, by go_num, HM4.out, HB4.out⟩
end Go.Proofs.Ytkodgecejljhkaa
