/- The walk of GroupWaits. -/
import Derived.Test.YtjcbigkmmjcmdaaGroupWaits
import Derived.Test.YtjcbigkmmjcmdaaFresh
namespace Go.Proofs.Ytjcbigkmmjcmdaa
open Go.ChangeShapes Go.WideShapes Go.ChangeAt Go.RowKit
set_option linter.unusedVariables false
set_option linter.unusedSimpArgs false
set_option maxRecDepth 100000
/-- New texts, some or none. -/
structure TxAt (v : Value) (al : List ByteArray) (w : World) : Prop where
  h : ∃ A c, v = .slice A al.length c ∧ Sees w w.heap.size 1 A al.length (strs al) ∧ Typed w 9 A al.length ∧ al.length ≤ c ∧ c ≤ 9223372036854775807
theorem TxAt.below {v : Value} {al : List ByteArray} {w w' : World} (h : TxAt v al w) (hb : Below w.heap.size w w') : TxAt v al w' := by
  obtain ⟨A, c, h1, h2, h3, h4⟩ := h.h
  exact ⟨⟨A, c, h1, (h2.below hb).more hb.size, h3.below hb (sees_lt h2), h4⟩⟩
theorem TxAt.tick {v : Value} {al : List ByteArray} {w w' : World} {g : Nat} {s : GS} (h : TxAt v al w) (hg : GAt w g s) (ho : w.grownBy w' (some g)) : TxAt v al w' := by
  obtain ⟨A, c, h1, h2, h3, h4⟩ := h.h
  have hne : ∀ ad, A = some ad → 0 < al.length → ad.block ≠ g := by obtain ⟨A', c', hk, _⟩ := hg; exact h3.ne hk group_ne_string
  exact ⟨⟨A, c, h1, h2.grownX hne (Nat.le_refl _) ho, fun ad ha hn => by
    obtain ⟨cs, f, e⟩ := h3 ad ha hn
    exact ⟨cs, f, (ho.block ad.block (sees_lt h2 ad ha hn) (fun e2 => hne ad ha hn (by injection e2))).trans e⟩, h4⟩⟩
theorem txAt_of {w w' : World} {e : Ending} {al : List ByteArray} (h : OwnAns 9 1 al.length (strs al) w e w') : ∃ v, e = .returned v ∧ TxAt v al w' ∧ Below w.heap.size w w' := by
  obtain ⟨A, c, h1, h2, h3, h4, h5⟩ := h
  exact ⟨_, h1, ⟨⟨A, c, rfl, Sees.of_own h2, Typed.of_own h2, h4, h5⟩⟩, h3⟩
theorem TxAt.nil (w : World) : TxAt (.slice none 0 0) [] w := ⟨⟨none, 0, rfl, Sees.nil, (fun _ h => by cases h), Nat.le_refl _, by omega⟩⟩
theorem alertsF_few : ∀ q, q < 8 → (alertsF q).length ≤ 3 := by decide
theorem alerts_5 (w : World) : Calls Try.prog 17 #[.int .i64 5] w (OwnAns 9 1 (alertsF 5).length (strs (alertsF 5)) w) := alerts_any 5 w (by omega)
/-- Two groups and their timing. -/
structure TwoG (w0 : World) (bx g h : Nat) (wt iv rp : Int) (s s2 : GS) (w : World) : Prop where
  box : Blk w bx 25 [.int .i64 wt, .int .i64 iv, .int .i64 rp]
  a : GAt w g s
  c : GAt w h s2
  ga : w0.heap.size ≤ g
  gh : g < h
  bel : Below w0.heap.size w0 w
section
variable {w0 w w' : World} {bx g h : Nat} {wt iv rp : Int} {s s2 s' : GS}
theorem TwoG.below (H : TwoG w0 bx g h wt iv rp s s2 w) (hb : Below w.heap.size w w') : TwoG w0 bx g h wt iv rp s s2 w' :=
  ⟨H.box.below hb H.box.lt, H.a.below hb, H.c.below hb, H.ga, H.gh, H.bel.trans (hb.mono H.bel.size)⟩
theorem TwoG.alloc (H : TwoG w0 bx g h wt iv rp s s2 w) (o : Obj) : TwoG w0 bx g h wt iv rp s s2 (w.alloc o) := H.below ((Below.refl _ _).alloc (Nat.le_refl _) o)
theorem TwoG.drewN (H : TwoG w0 bx g h wt iv rp s s2 w) (n : Nat) : TwoG w0 bx g h wt iv rp s s2 (w.drewN n) := H.below (belowD (Below.refl _ _) n)
theorem TwoG.tickA (H : TwoG w0 bx g h wt iv rp s s2 w) (hg : GAt w' g s') (ho : w.grownBy w' (some g)) : TwoG w0 bx g h wt iv rp s' s2 w' :=
  ⟨H.box.grown ho (fun e => H.box.notG H.a timing_ne_group (by injection e)), hg, H.c.other H.a ho (by have := H.gh; omega), H.ga, H.gh, H.bel.grown ho H.bel.size (fun k hk => by injection hk with hk; have := H.ga; omega)⟩
theorem TwoG.tickC (H : TwoG w0 bx g h wt iv rp s s2 w) (hg : GAt w' h s') (ho : w.grownBy w' (some h)) : TwoG w0 bx g h wt iv rp s s' w' :=
  ⟨H.box.grown ho (fun e => H.box.notG H.c timing_ne_group (by injection e)), H.a.other H.c ho (by have := H.gh; omega), hg, H.ga, H.gh, H.bel.grown ho H.bel.size (fun k hk => by injection hk with hk; have := H.ga; have := H.gh; omega)⟩
end
set_option maxHeartbeats 4000000 in
theorem group_waits (a b c : Int) (AN : Option Addr) (nn cn : Nat) (ns : List Int) (w : World) (ha : I64 a) (hb : I64 b) (hc : I64 c) (hN : Sees w w.heap.size 1 AN nn (ints ns)) (hnn : nn ≤ 9223372036854775807) (hnz : ∀ z ∈ ns, I64 z) :
    Calls Try.prog 5 #[.int .i64 a, .int .i64 b, .int .i64 c, .slice AN nn cn] w fun e w' => e = .returned (.bool true) ∧ Below w.heap.size w w' := by
  obtain ⟨i0, hi, hz0, hz1, hz2⟩ := info_parts Try.infoStr
  obtain ⟨hw0, hw1, hi0, hi1, hr0, hr1, hok⟩ := timing_ok a b c
  have HT := Lib.hid (timing_any a b c w ha hb hc)
  have HNW := Lib.hid (fun W => gnew_yes (wtF a) (ivF b) (rpF c) W hok)
  have HNS := Lib.hid hN; have HNZ := Lib.hid hnz
  generalize wtF a = wt at *
  generalize ivF b = iv at *
  generalize rpF c = rp at *
  clear hok ha hb hc hN hnz
  go_enter Try.func5, Try.ntmps5
  go_wp2_with fail
  (with_reducible refine HT.out.mono ?_); rintro e w1 ⟨rfl, hb⟩
  have HB1 := Lib.hid hb
  clear hb HT
  go_upto_region 2 with fail
  have HK := Lib.hid ((Blk.mk (heap_alloc_new w1 (.cells #[.int .i64 wt, .int .i64 iv, .int .i64 rp] 25)) : Blk _ _ 25 [.int .i64 wt, .int .i64 iv, .int .i64 rp]))
  have HB2 := Lib.hid (HB1.out.alloc HB1.out.size (.cells #[.int .i64 wt, .int .i64 iv, .int .i64 rp] 25))
  obtain ⟨W, hW⟩ : ∃ W, w1.alloc (.cells #[.int .i64 wt, .int .i64 iv, .int .i64 rp] 25) = W := ⟨_, rfl⟩
  rw [hW] at HK HB2
  rw [hW]
  clear hW
  have hbx0 := HB1.out.size
  generalize w1.heap.size = bx at *
  clear HB1
  go_cut [10, 11] (fun x10 x11 wx => ∃ g h : Nat, x10 = .pointer (some ⟨g, 0, none⟩) ∧ x11 = .pointer (some ⟨h, 0, none⟩) ∧ TwoG w bx g h wt iv rp (GS.new wt iv rp) (GS.new wt iv rp) wx)
  case first =>
    have Z := Lib.hid (HK.out.below (Below.refl _ _).drew HK.out.lt : Blk W.drew bx 25 [.int .i64 wt, .int .i64 iv, .int .i64 rp])
    have HBZ := Lib.hid HB2.out.drew
    have hwz := HBZ.out.size
    clear HK HB2
    have tokA : True := trivial
    have tokB : True := trivial
    go_region_held3 (fun V => V.cell? ⟨bx, 0, none⟩ = some (.int .i64 wt) ∧ V.cell? ⟨bx, 1, none⟩ = some (.int .i64 iv) ∧ V.cell? ⟨bx, 2, none⟩ = some (.int .i64 rp)) (exact box3 Z.out) (first
      | (have tk := tokA; (with_reducible refine (HNW.out _).mono ?_); rintro e wa ⟨ga, rfl, hga, hla, hba⟩; have HGA := Lib.hid hga; have hsa := hba.size; have hga2 := hga.lt; have Z := Lib.hid (Z.out.below hba Z.out.lt); have HBZ := Lib.hid (HBZ.out.trans (hba.mono HBZ.out.size)); clear tokA tk hga hba)
      | (have tk := tokB; (with_reducible refine (HNW.out _).mono ?_); rintro e wb ⟨gb, rfl, hgb, hlb, hbb⟩; have HGB := Lib.hid hgb; have Z := Lib.hid (Z.out.below hbb Z.out.lt); have HBZ := Lib.hid (HBZ.out.trans (hbb.mono HBZ.out.size)); have HGA := Lib.hid (HGA.out.below hbb); clear tokB tk hgb hbb)
      | fail)
    all_goals
      go_wp2_with fail
      go_meet
      exact ⟨ga, gb, rfl, rfl, Z.out, HGA.out, HGB.out, by omega, by omega, HBZ.out⟩
  case rest =>
    obtain ⟨g, h, rfl, rfl, hz⟩ := hcut
    have HZ := Lib.hid hz
    clear hz HK HB2 HNW
    go_wp2_with fail
    go_loopg [12, 13, 14, 15] 60 (fun g2 x12 x13 x14 x15 wr => ∃ (t : Nat) (began last : Int) (said : List ByteArray) (s : GS), t + g2 = 60 ∧ x15 = .int .i64 t ∧ x12 = .int .i64 began ∧ x13 = .int .i64 last ∧ TxAt x14 said wr ∧ WInv wt iv rp t began last said s ∧ TwoG w bx g h wt iv rp s (GS.new wt iv rp) wr)
    case atStart => exact ⟨0, -1, -1, [], GS.new wt iv rp, by omega, rfl, rfl, rfl, TxAt.nil _, WInv.start wt iv rp, HZ.out⟩
    case round =>
      obtain ⟨t, began, last, said, s, htg, rfl, rfl, rfl, htx, hinv, hz⟩ := hrel
      have HI := Lib.hid hinv; have HX := Lib.hid htx; have HR := Lib.hid hz
      clear hinv htx hz HZ
      cases gk with
      | zero =>
        obtain rfl : t = 60 := by omega
        have HR2 := HR
        clear HI HX HR
        go_wp2_with fail
        go_loopg [19, 20] 100 (fun g3 x19 x20 wr => ∃ (t : Nat) (first : Int) (s2 : GS), t + g3 = 100 ∧ x20 = .int .i64 t ∧ x19 = .int .i64 first ∧ hSt wt iv rp t first s2 ∧ TwoG w bx g h wt iv rp s s2 wr)
        case atStart => exact ⟨0, -1, GS.new wt iv rp, by omega, rfl, rfl, .inl ⟨rfl, rfl, rfl⟩, HR2.out⟩
        case round =>
          obtain ⟨t, first, s2, htg3, rfl, rfl, hinv, hz⟩ := hrel
          have HI := Lib.hid hinv; have HR := Lib.hid hz
          clear hinv hz HR2
          obtain ⟨hin, hf1, hf2⟩ := hSt_in HI.out ⟨show (0 : Int) ≤ t by omega, by omega⟩ ⟨hw0, hw1⟩
          have HIN := Lib.hid hin
          clear hin
          obtain ⟨e0, e1, e2⟩ := box3 HR.out.box
          cases gk with
          | zero =>
            obtain rfl : t = 100 := by omega
            have hge : wt ≤ first := by
              rcases HI.out with ⟨h, _⟩ | ⟨_, h, _⟩ | ⟨_, h, _⟩ <;> omega
            clear HI HIN
            go_wp2_with fail
            (with_reducible refine (group_runs _).mono ?_); rintro e wq ⟨rfl, hbq⟩
            have HQ := Lib.hid (HR.out.below hbq)
            clear hbq
            go_wp2_with fail
            go_ret
            exact ⟨rfl, HQ.out.bel⟩
          | succ g3 =>
            have hst := hSt_step HI.out ⟨hw0, hw1⟩ ⟨hi0, hi1⟩ ⟨show (0 : Int) ≤ t by omega, by omega⟩
            have HIT := Lib.hid (show (t : Int) + 1 = ((t + 1 : Nat) : Int) by omega)
            rw [HIT.out] at hst
            have HTC := Lib.hid (tick_any h s2 t (some ⟨wr.heap.size, 0, none⟩) 1 1 [⟨#[97]⟩] (wr.alloc (.cells #[.string ⟨#[97]⟩] 9)) (HR.out.alloc _).c (one_sees _) (one_ne HR.out.c) (by omega) (by omega) HIN.out.1 HIN.out.2.1 HIN.out.2.2)
            obtain ⟨r, hr⟩ : ∃ r, s2.tick t [⟨#[97]⟩] = r := ⟨_, rfl⟩
            rw [hr] at hst HTC
            clear hr
            obtain ⟨s', told, ok⟩ := r
            have HST := Lib.hid hst
            simp only at HST HTC
            clear hst HI HIN
            go_wp2_with fail
            (with_reducible refine HTC.out.mono ?_); rintro e w6 ⟨A6, c6, rfl, hg6, hs6, ho6⟩
            have HR6 := Lib.hid ((HR.out.alloc (.cells #[.string ⟨#[97]⟩] 9)).tickC hg6 ho6)
            clear hg6 hs6 ho6 HTC HR e0 e1 e2
            obtain ⟨e0, e1, e2⟩ := box3 HR6.out.box
            cases ok with
            | false =>
              have HS2 := Lib.hid HST.out.2
              clear HST
              go_wp2_with fail
              go_roundg g3
              case measure => omega
              case rel => exact ⟨t + 1, first, s', by omega, by go_num, rfl, HS2.out, HR6.out⟩
            | true =>
              have HS1 := HST.out.1 rfl
              have HS2 := Lib.hid HST.out.2
              obtain ⟨hs1, hs2⟩ := HS1
              clear HST
              by_cases hf0 : first < 0
              · have hs1' := hs1 hf0
                have q1 : ((t : Int) == wt) = true := by rw [hs1']; simp
                have q2 : ((t : Int) != wt) = false := by rw [hs1']; simp
                have q3 : ¬ (0 ≤ first) := by omega
                clear hs1 hs2 hs1'
                go_wp2_with fail
                go_roundg g3
                case measure => omega
                case rel => exact ⟨t + 1, t, s', by omega, by go_num, rfl, HS2.out, HR6.out⟩
              · have hs2' := hs2 (by omega)
                have q3 : 0 ≤ first := by omega
                have q4 : ¬ ((t : Int) - first < rp) := by omega
                clear hs1 hs2 hs2'
                go_wp2_with fail
                go_roundg g3
                case measure => omega
                case rel => exact ⟨t + 1, t, s', by omega, by go_num, rfl, HS2.out, HR6.out⟩
      | succ g2 =>
        have ht60 : t < 60 := by omega
        obtain ⟨r1, r2, r3, r4⟩ := HI.out.range (by omega)
        go_wp2_with fail
        (with_reducible refine (alerts_5 _).mono ?_); rintro e w3 haa; obtain ⟨v3, rfl, ha3, hb3⟩ := txAt_of haa
        have HC3 := Lib.hid (HR.out.below hb3); have HA3 := Lib.hid ha3; have HX3 := Lib.hid (HX.out.below hb3)
        clear haa ha3 hb3 HR HX
        go_upto_if 45 with (fail)
        go_cut [16] (fun x16 wx => ∃ al, al.length ≤ 3 ∧ TxAt x16 al wx ∧ TxAt u14 said wx ∧ TwoG w bx g h wt iv rp s (GS.new wt iv rp) wx)
        case first =>
          by_cases htn : t < nn
          · obtain ⟨ad, hkl, rfl, e0⟩ := (HNS.out.below HC3.out.bel).int htn
            have hz := HNZ.out ns[t] (List.getElem_mem _)
            generalize ns[t] = z at *
            obtain ⟨hq0, hq1⟩ := nWithin_in z (lo := 0) (hi := 7) (by omega)
            have HWZ := Lib.hid (fun W => within_any z 0 7 W hz (by omega) (by omega) (by omega))
            generalize nWithin z 0 7 = q' at *
            obtain ⟨q, rfl⟩ := Int.eq_ofNat_of_zero_le (show 0 ≤ q' by omega)
            go_wp2_with fail
            (with_reducible refine (HWZ.out _).mono ?_); rintro e wq ⟨rfl, rfl⟩
            go_wp2_with fail
            (with_reducible refine (alerts_any q _ (by omega)).mono ?_); rintro e w4 haa; obtain ⟨v4, rfl, ha4, hb4⟩ := txAt_of haa
            have HC4 := Lib.hid (HC3.out.below hb4); have HA4 := Lib.hid ha4; have HX4 := Lib.hid (HX3.out.below hb4)
            clear haa ha4 hb4 HC3 HA3 HX3
            go_wp2_with fail
            go_meet
            exact ⟨alertsF q, alertsF_few q (by omega), HA4.out, HX4.out, HC4.out⟩
          · have hd : ((t : Int) < nn) = False := by simp; omega
            go_wp2_with fail
            go_meet
            exact ⟨alertsF 5, alertsF_few 5 (by omega), HA3.out, HX3.out, HC3.out⟩
        case rest =>
          obtain ⟨al, hal3, hal, hsa, hz⟩ := hcut
          obtain ⟨A, cA, rfl, hAs, hAt, hAc⟩ := hal.h
          have HA := Lib.hid hal; have HX := Lib.hid hsa; have HR := Lib.hid hz
          clear hal hsa hz HC3 HA3 HX3 hAs hAt
          go_upto_region 13 with fail
          go_cut [58] (fun x58 wx => x58 = .bool (decide (began < 0 ∧ al ≠ [])) ∧ TxAt (.slice A al.length cA) al wx ∧ TxAt u14 said wx ∧ TwoG w bx g h wt iv rp s (GS.new wt iv rp) wx)
          case first =>
            by_cases hb0 : began < 0
            · by_cases hl0 : al = []
              · have HD := Lib.hid (show decide (began < 0 ∧ al ≠ []) = false by simp [hl0])
                have hlz : al.length = 0 := by rw [hl0]; rfl
                have HLZ := Lib.hid hlz
                clear hl0 hlz
                have q1 : decide (0 < al.length) = false := decide_eq_false (by rw [HLZ.out]; omega)
                have q2 : ¬ (0 < (al.length : Int)) := by have := HLZ.out; omega
                generalize al.length = nl at *
                go_wp2_with fail
                go_meet
                exact ⟨by rw [HD.out], HA.out, HX.out, HR.out⟩
              · have HD := Lib.hid (show decide (began < 0 ∧ al ≠ []) = true by simp [hl0, hb0])
                have hlz : 0 < al.length := List.length_pos_iff.2 hl0
                clear hl0
                generalize al.length = nl at *
                go_wp2_with fail
                go_meet
                exact ⟨by rw [HD.out], HA.out, HX.out, HR.out⟩
            · have HD := Lib.hid (show decide (began < 0 ∧ al ≠ []) = false by simp; intro h; omega)
              go_wp2_with fail
              go_meet
              exact ⟨by rw [HD.out], HA.out, HX.out, HR.out⟩
          case rest =>
            obtain ⟨rfl, hal, hsa, hz⟩ := hcut
            have HA2 := Lib.hid hal; have HX2 := Lib.hid hsa; have HR2 := Lib.hid hz
            clear hal hsa hz HA HX HR
            obtain ⟨bf, hbf⟩ : ∃ x, beganF began t al = x := ⟨_, rfl⟩
            have HBF := Lib.hid hbf
            have hbf2 : beganF began t al = if decide (began < 0 ∧ al ≠ []) = true then (t : Int) else began := by unfold beganF; by_cases h : began < 0 ∧ al ≠ [] <;> simp [h]
            rw [hbf] at hbf2
            obtain ⟨bd, hbd⟩ : ∃ x, decide (began < 0 ∧ al ≠ []) = x := ⟨_, rfl⟩
            rw [hbd] at hbf2
            rw [hbd]
            clear hbd hbf
            go_upto_if 58 with (fail)
            go_cut [12] (fun x12 wx => x12 = .int .i64 bf ∧ TxAt (.slice A al.length cA) al wx ∧ TxAt u14 said wx ∧ TwoG w bx g h wt iv rp s (GS.new wt iv rp) wx)
            case first =>
              cases bd with
              | true =>
                have HQ := Lib.hid hbf2
                clear hbf2
                go_wp2_with fail
                go_meet
                exact ⟨by rw [HQ.out]; rfl, HA2.out, HX2.out, HR2.out⟩
              | false =>
                have HQ := Lib.hid hbf2
                clear hbf2
                go_wp2_with fail
                go_meet
                exact ⟨by rw [HQ.out]; rfl, HA2.out, HX2.out, HR2.out⟩
            case rest =>
              obtain ⟨rfl, hal, hsa, hz⟩ := hcut
              have HA := Lib.hid hal; have HX := Lib.hid hsa; have HR := Lib.hid hz
              clear hal hsa hz HA2 HX2 HR2 hbf2 bd
              have hin := HI.out.in_ (show (t : Int) ≤ 200 by omega)
              have hstep := HI.out.step hal3 ⟨hw0, hw1⟩ ⟨hi0, hi1⟩ ⟨show (0 : Int) ≤ t by omega, by omega⟩
              rw [HBF.out] at hstep
              obtain ⟨A', cA', hv', hAs, hAt, hAc⟩ := HA.out.h
              injection hv' with hv1 hv2 hv3
              subst hv1; subst hv3
              have HTC := Lib.hid (tick_any g s t A al.length cA al wc HR.out.a hAs (by obtain ⟨A', c', hk, _⟩ := HR.out.a; exact hAt.ne hk group_ne_string) (by omega) hAc hin.1 hin.2.1 hin.2.2)
              have HST := Lib.hid hstep
              have HBR := Lib.hid (show -1 ≤ bf ∧ bf ≤ t by rw [← HBF.out]; unfold beganF; split <;> omega)
              have HS3 := Lib.hid HI.out.said
              clear hin hstep hAs hAt hAc hv2 HBF
              obtain ⟨r, hr⟩ : ∃ r, s.tick t al = r := ⟨_, rfl⟩
              have HTL := Lib.hid (show r.2.1.length ≤ 3 by
                rw [← hr]
                unfold GS.tick
                repeat' split
                all_goals simp only [List.length_nil]; omega)
              rw [hr] at HTC HST
              clear hr
              obtain ⟨s', told, ok⟩ := r
              simp only at HTC HST HTL
              have hbf0 : -1 ≤ bf ∧ bf ≤ t := HBR.out
              go_wp2_with fail
              (with_reducible refine HTC.out.mono ?_); rintro e w6 ⟨A6, c6, rfl, hg6, ⟨hs6, ht6⟩, ho6⟩
              have HA6 := Lib.hid (HA.out.tick HR.out.a ho6)
              have HX6 := Lib.hid (HX.out.tick HR.out.a ho6)
              have HR6 := Lib.hid (HR.out.tickA hg6 ho6)
              have HL6 := Lib.hid hs6; have HT6 := Lib.hid ht6
              clear hg6 hs6 ht6 ho6 HA HX HR HTC HI
              go_upto_region 16 with fail
              go_cut [115] (fun x115 wx => x115 = .bool false ∧ Slc wx 1 (.slice A6 told.length c6) told.length (strs told) ∧ TxAt u14 said wx ∧ TwoG w bx g h wt iv rp s' (GS.new wt iv rp) wx)
              case first =>
                cases ok with
                | false =>
                  go_wp2_with fail
                  go_meet
                  exact ⟨rfl, HL6.out, HX6.out, HR6.out⟩
                | true =>
                  obtain ⟨h1, h2, h3, h4⟩ := HST.out.1 rfl
                  subst h1
                  have H3 := Lib.hid h3; have H4 := Lib.hid h4
                  clear h3 h4 HST
                  obtain ⟨e0, e1, e2⟩ := box3 HR6.out.box
                  obtain ⟨A', cA', hv', hAs, hAt, hAc⟩ := HA6.out.h
                  injection hv' with hv1 hv2 hv3
                  subst hv1; subst hv3
                  have HAS := Lib.hid hAs
                  obtain ⟨AS, cS, rfl, hSs, hSt, hSc⟩ := HX6.out.h
                  have HSS := Lib.hid hSs
                  have hs3 : said.length ≤ 3 := HS3.out
                  clear hAs hAt hAc hSs hSt hv2
                  have z1 : ¬ ((t : Int) < bf + wt) := by omega
                  go_wp2_with fail
                  (with_reducible refine (same_str A6 A told.length c6 told.length cA _ _ told told _ HL6.out.sees HAS.out (by omega) (by omega)).mono ?_); rintro e wq ⟨rfl, m1, rfl⟩
                  rw [decide_eq_true (rfl : told = told)]
                  have HL7 := Lib.hid (HL6.out.below (belowD (Below.refl _ _) m1)); have HX7 := Lib.hid (HX6.out.below (belowD (Below.refl _ _) m1)); have HR7 := Lib.hid (HR6.out.drewN m1)
                  have HSS7 := Lib.hid (HSS.out.drewN m1)
                  clear HL6 HX6 HR6 HSS HAS HA6
                  by_cases hl0 : 0 ≤ last
                  · have H3' := H3.out hl0
                    have z2 : ¬ ((t : Int) < last + iv) := by omega
                    have HSM := Lib.hid (same_str A6 AS told.length c6 said.length cS _ _ told said _ HL7.out.sees HSS7.out (by omega) (by omega))
                    by_cases hq : told = said
                    · rw [decide_eq_true hq] at HSM
                      by_cases he : told = []
                      · have hlz : told.length = 0 := by rw [he]; rfl
                        have q2 : ¬ (0 < (told.length : Int)) := by omega
                        have q1 : decide (0 < told.length) = false := decide_eq_false (by omega)
                        have HLZ := Lib.hid hlz
                        clear hq he H3 H4 hlz
                        go_wp2_with fail
                        (with_reducible refine HSM.out.mono ?_); rintro e wq ⟨rfl, m2, rfl⟩
                        have HL8 := Lib.hid (HL7.out.below (belowD (Below.refl _ _) m2)); have HX8 := Lib.hid (HX7.out.below (belowD (Below.refl _ _) m2)); have HR8 := Lib.hid (HR7.out.drewN m2)
                        clear HL7 HX7 HR7 HSS7 HSM
                        go_wp2_with fail
                        go_meet
                        exact ⟨by first | rfl | (simp; omega), by first | exact HL8.out | (rw [← World.drewN_drewN]; exact HL8.out), by first | exact HX8.out | (rw [← World.drewN_drewN]; exact HX8.out), by first | exact HR8.out | (rw [← World.drewN_drewN]; exact HR8.out)⟩
                      · have H4' := H4.out hl0 hq he
                        have z3 : ¬ ((t : Int) < last + rp) := by omega
                        have hlz : 0 < told.length := List.length_pos_iff.2 he
                        clear hq he H3 H4
                        go_wp2_with fail
                        (with_reducible refine HSM.out.mono ?_); rintro e wq ⟨rfl, m2, rfl⟩
                        have HL8 := Lib.hid (HL7.out.below (belowD (Below.refl _ _) m2)); have HX8 := Lib.hid (HX7.out.below (belowD (Below.refl _ _) m2)); have HR8 := Lib.hid (HR7.out.drewN m2)
                        clear HL7 HX7 HR7 HSS7 HSM
                        go_wp2_with fail
                        go_meet
                        exact ⟨by first | rfl | (simp; omega), by first | exact HL8.out | (rw [← World.drewN_drewN]; exact HL8.out), by first | exact HX8.out | (rw [← World.drewN_drewN]; exact HX8.out), by first | exact HR8.out | (rw [← World.drewN_drewN]; exact HR8.out)⟩
                    · rw [decide_eq_false hq] at HSM
                      clear hq H3 H4
                      go_wp2_with fail
                      (with_reducible refine HSM.out.mono ?_); rintro e wq ⟨rfl, m2, rfl⟩
                      have HL8 := Lib.hid (HL7.out.below (belowD (Below.refl _ _) m2)); have HX8 := Lib.hid (HX7.out.below (belowD (Below.refl _ _) m2)); have HR8 := Lib.hid (HR7.out.drewN m2)
                      clear HL7 HX7 HR7 HSS7 HSM
                      go_wp2_with fail
                      go_meet
                      exact ⟨by first | rfl | (simp; omega), by first | exact HL8.out | (rw [← World.drewN_drewN]; exact HL8.out), by first | exact HX8.out | (rw [← World.drewN_drewN]; exact HX8.out), by first | exact HR8.out | (rw [← World.drewN_drewN]; exact HR8.out)⟩
                  · clear H3 H4
                    go_wp2_with fail
                    go_meet
                    exact ⟨by first | rfl | (simp; omega), HL7.out, HX7.out, HR7.out⟩
              case rest =>
                obtain ⟨rfl, hls, hsa, hz⟩ := hcut
                have HL := Lib.hid hls; have HX := Lib.hid hsa; have HR := Lib.hid hz
                clear hls hsa hz HL6 HX6 HR6 HA6 HT6
                have htl := HTL.out
                go_upto_if 116 with (fail)
                go_cut [13, 14] (fun x13 x14 wx => x13 = .int .i64 (if ok then (t : Int) else last) ∧ TxAt x14 (if ok then told else said) wx ∧ TwoG w bx g h wt iv rp s' (GS.new wt iv rp) wx)
                case first =>
                  cases ok with
                  | false =>
                    go_wp2_with fail
                    go_meet
                    exact ⟨rfl, HX.out, HR.out⟩
                  | true =>
                    have HE := Lib.hid (World.ownsRow_made (base := wc.heap.size) (e := 9) (size := 1) wc #[] 0 (Nat.le_refl _) (by unfold maxLen; omega) rfl)
                    have HSL := Lib.hid (HL.out.sees.below ((Below.refl wc.heap.size wc).alloc (Nat.le_refl _) (.cells #[] 9)))
                    have HBE := Lib.hid ((Below.refl wc.heap.size wc).alloc (Nat.le_refl _) (.cells #[] 9))
                    go_wp2_with (at_builtin; refine wpList_append_sees rfl (.tmp 118) (.tmp 119) 27 rfl wc.heap.size 9 i0 (.string ⟨#[]⟩) 1 16 Try.underlying27 hi hz0 hz1 hz2 rfl (by decide) _ 0 [] rfl HE.out _ _ _ _ (strs told) rfl HSL.out (strs_one _) (by unfold maxLen; omega) (by omega) (by simp) ?_)
                    intro v7 w7 hown7 hgr7
                    have hb7 := HBE.out.grown hgr7 (by simp) (by simp [Value.ownBlock])
                    have HR7 := Lib.hid (HR.out.below hb7)
                    have HO7 := Lib.hid (show TxAt v7 told w7 from by
                      have h : w7.ownsRow wc.heap.size 9 1 v7 told.length (strs told) := by simpa using hown7
                      obtain ⟨A, c, rfl, h1, h2⟩ := own_slice h
                      exact ⟨⟨A, c, rfl, Sees.of_own h, Typed.of_own h, h1, h2⟩⟩)
                    clear hown7 hgr7 hb7 HE HSL HBE
                    go_wp2_with fail
                    go_meet
                    exact ⟨rfl, HO7.out, HR7.out⟩
                case rest =>
                  obtain ⟨rfl, hsa, hz⟩ := hcut
                  have HX8 := Lib.hid hsa; have HR8 := Lib.hid hz
                  clear hsa hz HX HR HL
                  obtain ⟨l', hl'⟩ : ∃ l', (if ok then (t : Int) else last) = l' := ⟨_, rfl⟩
                  obtain ⟨q', hq'⟩ : ∃ q', (if ok then told else said) = q' := ⟨_, rfl⟩
                  rw [hl', hq'] at HST
                  rw [hq'] at HX8
                  rw [hl']
                  clear hl' hq'
                  have HIT := Lib.hid (show (t : Int) + 1 = ((t + 1 : Nat) : Int) by omega)
                  rw [HIT.out] at HST
                  by_cases h0 : s'.st = 0
                  · have HD := Lib.hid (decide_eq_true h0)
                    have HW := Lib.hid (HST.out.2.1 h0)
                    clear h0 HST
                    go_wp2_with fail
                    (with_reducible refine (gidle_any g s' _ HR8.out.a).mono ?_); rintro e wq ⟨rfl, rfl⟩
                    rw [HD.out]
                    go_wp2_with fail
                    go_roundg g2
                    case measure => omega
                    case rel => exact ⟨t + 1, -1, -1, q', s', by omega, by go_num, rfl, rfl, HX8.out, HW.out, HR8.out⟩
                  · have HD := Lib.hid (decide_eq_false h0)
                    have HW := Lib.hid (HST.out.2.2 h0)
                    clear h0 HST
                    go_wp2_with fail
                    (with_reducible refine (gidle_any g s' _ HR8.out.a).mono ?_); rintro e wq ⟨rfl, rfl⟩
                    rw [HD.out]
                    go_wp2_with fail
                    go_roundg g2
                    case measure => omega
                    case rel => exact ⟨t + 1, bf, l', q', s', by omega, by go_num, rfl, rfl, HX8.out, HW.out, HR8.out⟩
end Go.Proofs.Ytjcbigkmmjcmdaa
