/- The walk of GroupQuiet. -/
import Derived.Test.YtjcbigkmmjcmdaaGroupQuiet
namespace Go.Proofs.Ytjcbigkmmjcmdaa
open Go.ChangeShapes Go.WideShapes Go.ChangeAt Go.RowKit
set_option linter.unusedVariables false
set_option maxRecDepth 100000
theorem box3 {V : World} {b : Nat} {t : TypeId} {x y z : Value} (h : Blk V b t [x, y, z]) : V.cell? ⟨b, 0, none⟩ = some x ∧ V.cell? ⟨b, 1, none⟩ = some y ∧ V.cell? ⟨b, 2, none⟩ = some z := ⟨h.cell 0, h.cell 1, h.cell 2⟩
/-- Three groups, and their timing. -/
structure Three (w0 : World) (bx ga gb gc : Nat) (wt iv rp : Int) (sa sb sc : GS) (w : World) : Prop where
  box : Blk w bx 25 [.int .i64 wt, .int .i64 iv, .int .i64 rp]
  a : GAt w ga sa
  b : GAt w gb sb
  c : GAt w gc sc
  bel : Below w0.heap.size w0 w
theorem Three.below {w0 w w' : World} {bx ga gb gc : Nat} {wt iv rp : Int} {sa sb sc : GS} (h : Three w0 bx ga gb gc wt iv rp sa sb sc w) (hb : Below w.heap.size w w') : Three w0 bx ga gb gc wt iv rp sa sb sc w' :=
  ⟨h.box.below hb h.box.lt, h.a.below hb, h.b.below hb, h.c.below hb, h.bel.trans (hb.mono h.bel.size)⟩
theorem Three.alloc {w0 w : World} {bx ga gb gc : Nat} {wt iv rp : Int} {sa sb sc : GS} (h : Three w0 bx ga gb gc wt iv rp sa sb sc w) (o : Obj) : Three w0 bx ga gb gc wt iv rp sa sb sc (w.alloc o) := h.below ((Below.refl _ _).alloc (Nat.le_refl _) o)
theorem Three.drewN {w0 w : World} {bx ga gb gc : Nat} {wt iv rp : Int} {sa sb sc : GS} (h : Three w0 bx ga gb gc wt iv rp sa sb sc w) (n : Nat) : Three w0 bx ga gb gc wt iv rp sa sb sc (w.drewN n) := h.below (belowD (Below.refl _ _) n)
theorem timing_ne_group : (25 : TypeId) ≠ 51 := by decide
theorem Blk.notG {w : World} {b g : Nat} {t : TypeId} {cs : List Value} {s : GS} (h : Blk w b t cs) (hg : GAt w g s) (ht : t ≠ 51) : b ≠ g := fun e => by
  subst e
  obtain ⟨A, c, hk, _⟩ := hg
  have := h.eq.symm.trans hk.eq
  injection this with this; injection this with _ this _
  exact ht this
theorem Three.tickB {w0 w w' : World} {bx ga gb gc : Nat} {wt iv rp : Int} {sa sb sc sb' : GS} (h : Three w0 bx ga gb gc wt iv rp sa sb sc w) (hg : GAt w' gb sb') (ho : w.grownBy w' (some gb)) (h0 : w0.heap.size ≤ gb) (h1 : ga ≠ gb) (h2 : gc ≠ gb) : Three w0 bx ga gb gc wt iv rp sa sb' sc w' :=
  ⟨h.box.grown ho (fun e => h.box.notG h.b timing_ne_group (by injection e)), h.a.other h.b ho h1, hg, h.c.other h.b ho h2, h.bel.grown ho h.bel.size (fun k hk => by injection hk with hk; omega)⟩
theorem Three.tickA {w0 w w' : World} {bx ga gb gc : Nat} {wt iv rp : Int} {sa sb sc sa' : GS} (h : Three w0 bx ga gb gc wt iv rp sa sb sc w) (hg : GAt w' ga sa') (ho : w.grownBy w' (some ga)) (h0 : w0.heap.size ≤ ga) (h1 : gb ≠ ga) (h2 : gc ≠ ga) : Three w0 bx ga gb gc wt iv rp sa' sb sc w' :=
  ⟨h.box.grown ho (fun e => h.box.notG h.a timing_ne_group (by injection e)), hg, h.b.other h.a ho h1, h.c.other h.a ho h2, h.bel.grown ho h.bel.size (fun k hk => by injection hk with hk; omega)⟩
theorem Three.tickC {w0 w w' : World} {bx ga gb gc : Nat} {wt iv rp : Int} {sa sb sc sc' : GS} (h : Three w0 bx ga gb gc wt iv rp sa sb sc w) (hg : GAt w' gc sc') (ho : w.grownBy w' (some gc)) (h0 : w0.heap.size ≤ gc) (h1 : ga ≠ gc) (h2 : gb ≠ gc) : Three w0 bx ga gb gc wt iv rp sa sb sc' w' :=
  ⟨h.box.grown ho (fun e => h.box.notG h.c timing_ne_group (by injection e)), h.a.other h.c ho h1, h.b.other h.c ho h2, hg, h.bel.grown ho h.bel.size (fun k hk => by injection hk with hk; omega)⟩
/-- A tick's contract where the answer is known. -/
theorem tick_is {g : Nat} {s s' : GS} {t : Int} {AL : Option Addr} {nl cl : Nat} {al told : List ByteArray} {ok : Bool} {w : World} (h : GAt w g s) (hal : Sees w w.heap.size 1 AL nl (strs al)) (hne : ∀ ad, AL = some ad → 0 < nl → ad.block ≠ g) (hnl : nl ≤ 1000000) (hcl : nl ≤ cl ∧ cl ≤ 9223372036854775807)
    (hs : s.st ≠ 0 → I64 (t - s.since)) (hT : s.st = 2 → I64 (t - s.lastT)) (hll : s.last.length ≤ 1000000) (he : s.tick t al = (s', told, ok)) :
    Calls Try.prog 9 #[.pointer (some ⟨g, 0, none⟩), .int .i64 t, .slice AL nl cl] w (TickAns g s' told ok w) := by
  have := tick_any g s t AL nl cl al w h hal hne hnl hcl hs hT hll
  rw [he] at this
  exact this
theorem bSt_in (wt iv rp G t : Int) (h0 : 0 ≤ t) (h3 : t ≤ 200) : ((bSt wt iv rp G t).st ≠ 0 → I64 (t - (bSt wt iv rp G t).since)) ∧ ((bSt wt iv rp G t).st = 2 → I64 (t - (bSt wt iv rp G t).lastT)) ∧ (bSt wt iv rp G t).last.length ≤ 1000000 := by
  unfold bSt
  split <;> simp [GS.new] <;> unfold I64 <;> omega
theorem cSt_in (wt iv rp t : Int) (h0 : 0 ≤ t) (h3 : t ≤ 200) (h1 : 0 ≤ wt ∧ wt ≤ 30) : ((cSt wt iv rp t).st ≠ 0 → I64 (t - (cSt wt iv rp t).since)) ∧ ((cSt wt iv rp t).st = 2 → I64 (t - (cSt wt iv rp t).lastT)) ∧ (cSt wt iv rp t).last.length ≤ 1000000 := by
  unfold cSt
  split
  · simp; unfold I64; omega
  · split <;> simp [GS.new] <;> unfold I64 <;> omega
def offF (wt iv t : Int) : Int := if wt + iv < t then 1 else 0
theorem offF_step (wt iv t : Int) : offF wt iv (t + 1) = if t = wt + iv then offF wt iv t + 1 else offF wt iv t := by
  unfold offF
  by_cases h : t = wt + iv
  · rw [if_pos h, if_pos (by omega), if_neg (by omega)]; rfl
  · rw [if_neg h]
    by_cases h2 : wt + iv < t
    · rw [if_pos h2, if_pos (by omega)]
    · rw [if_neg h2, if_neg (by omega)]
theorem offF_in (wt iv t : Int) : 0 ≤ offF wt iv t ∧ offF wt iv t ≤ 1 := by unfold offF; split <;> omega
theorem new_st (a b c : Int) : (GS.new a b c).st = 0 := rfl
theorem none_ne {g n : Nat} : ∀ ad, (none : Option Addr) = some ad → 0 < n → ad.block ≠ g := fun ad ha _ => by cases ha
theorem one_sees (W : World) : Sees (W.alloc (.cells #[.string ⟨#[97]⟩] 9)) (W.alloc (.cells #[.string ⟨#[97]⟩] 9)).heap.size 1 (some ⟨W.heap.size, 0, none⟩) 1 (strs (oneA true)) :=
  (Blk.mk (heap_alloc_new W _) : Blk _ W.heap.size 9 [.string ⟨#[97]⟩]).sees rfl (List.prefix_refl _)
theorem one_ne {W : World} {g : Nat} {s : GS} (h : GAt W g s) : ∀ ad, (some ⟨W.heap.size, 0, none⟩ : Option Addr) = some ad → 0 < 1 → ad.block ≠ g := fun ad ha _ => by
  injection ha with ha; rw [← ha]; have := h.lt; show W.heap.size ≠ g; omega
set_option maxHeartbeats 4000000 in
theorem group_quiet (a b c d : Int) (w : World) (ha : I64 a) (hb : I64 b) (hc : I64 c) (hd : I64 d) :
    Calls Try.prog 6 #[.int .i64 a, .int .i64 b, .int .i64 c, .int .i64 d] w fun e w' => e = .returned (.bool true) ∧ Below w.heap.size w w' := by
  obtain ⟨hw0, hw1, hi0, hi1, hr0, hr1, hok⟩ := timing_ok a b c
  have HT := Lib.hid (timing_any a b c w ha hb hc)
  have HNW := Lib.hid (fun W => gnew_yes (wtF a) (ivF b) (rpF c) W hok)
  have HWI := Lib.hid (fun W => within_any d 0 (wtF a) W hd (by omega) (by omega) (by omega))
  obtain ⟨hG0, hG1⟩ := nWithin_in d (lo := 0) (hi := wtF a) hw0
  generalize nWithin d 0 (wtF a) = G at *
  generalize wtF a = wt at *
  generalize ivF b = iv at *
  generalize rpF c = rp at *
  clear hok ha hb hc hd
  go_enter Try.func6, Try.ntmps6
  go_wp2_with fail
  (with_reducible refine HT.out.mono ?_); rintro e w1 ⟨rfl, hb⟩
  have HB1 := Lib.hid hb
  clear hb HT
  go_upto_region 2 with fail
  have HK := Lib.hid ((Blk.mk (heap_alloc_new w1 (.cells #[.int .i64 wt, .int .i64 iv, .int .i64 rp] 25)) : Blk _ _ 25 [.int .i64 wt, .int .i64 iv, .int .i64 rp]))
  have HB2 := Lib.hid (HB1.out.alloc HB1.out.size (.cells #[.int .i64 wt, .int .i64 iv, .int .i64 rp] 25))
  obtain ⟨W, hW⟩ : ∃ W, w1.alloc (.cells #[.int .i64 wt, .int .i64 iv, .int .i64 rp] 25) = W := ⟨_, rfl⟩
  rw [hW] at HK HB2
  rw [hW]
  clear hW
  have hbx0 := HB1.out.size
  generalize w1.heap.size = bx at *
  clear HB1
  go_cut [10, 11, 12] (fun x10 x11 x12 wx => ∃ ga gb gc : Nat, x10 = .pointer (some ⟨ga, 0, none⟩) ∧ x11 = .pointer (some ⟨gb, 0, none⟩) ∧ x12 = .pointer (some ⟨gc, 0, none⟩) ∧ w.heap.size ≤ ga ∧ ga < gb ∧ gb < gc ∧ Three w bx ga gb gc wt iv rp (GS.new wt iv rp) (GS.new wt iv rp) (GS.new wt iv rp) wx)
  case first =>
    have Z := Lib.hid (HK.out.below (Below.refl _ _).drew HK.out.lt : Blk W.drew bx 25 [.int .i64 wt, .int .i64 iv, .int .i64 rp])
    have HBZ := Lib.hid HB2.out.drew
    have hwz := HBZ.out.size
    clear HK HB2
    have tokA : True := trivial
    have tokB : True := trivial
    have tokC : True := trivial
    go_region_held3 (fun V => V.cell? ⟨bx, 0, none⟩ = some (.int .i64 wt) ∧ V.cell? ⟨bx, 1, none⟩ = some (.int .i64 iv) ∧ V.cell? ⟨bx, 2, none⟩ = some (.int .i64 rp)) (exact box3 Z.out) (first
      | (have tk := tokA; (with_reducible refine (HNW.out _).mono ?_); rintro e wa ⟨ga, rfl, hga, hla, hba⟩; have HGA := Lib.hid hga; have hsa := hba.size; have hga2 := hga.lt; have Z := Lib.hid (Z.out.below hba Z.out.lt); have HBZ := Lib.hid (HBZ.out.trans (hba.mono HBZ.out.size)); clear tokA tk hga hba)
      | (have tk := tokB; (with_reducible refine (HNW.out _).mono ?_); rintro e wb ⟨gb, rfl, hgb, hlb, hbb⟩; have HGB := Lib.hid hgb; have hsb := hbb.size; have hgb2 := hgb.lt; have Z := Lib.hid (Z.out.below hbb Z.out.lt); have HBZ := Lib.hid (HBZ.out.trans (hbb.mono HBZ.out.size)); have HGA := Lib.hid (HGA.out.below hbb); clear tokB tk hgb hbb)
      | (have tk := tokC; (with_reducible refine (HNW.out _).mono ?_); rintro e wc ⟨gc, rfl, hgc, hlc, hbc⟩; have HGC := Lib.hid hgc; have hsc := hbc.size; have Z := Lib.hid (Z.out.below hbc Z.out.lt); have HBZ := Lib.hid (HBZ.out.trans (hbc.mono HBZ.out.size)); have HGA := Lib.hid (HGA.out.below hbc); have HGB := Lib.hid (HGB.out.below hbc); clear tokC tk hgc hbc)
      | fail)
    all_goals
      go_wp2_with fail
      go_meet
      exact ⟨ga, gb, gc, rfl, rfl, rfl, by omega, by omega, by omega, Z.out, HGA.out, HGB.out, HGC.out, HBZ.out⟩
  case rest =>
    obtain ⟨ga, gb, gc, rfl, rfl, rfl, hga, hab, hbc, hz⟩ := hcut
    have HZ0 := Lib.hid hz
    clear hz HK HB2 HNW
    go_wp2_with fail
    go_loopg [13, 14] 120 (fun g2 x13 x14 wr => ∃ k : Nat, k + g2 = 120 ∧ x14 = .int .i64 k ∧ x13 = .int .i64 (offF wt iv k) ∧ Three w bx ga gb gc wt iv rp (GS.new wt iv rp) (bSt wt iv rp G k) (cSt wt iv rp k) wr)
    case atStart => exact ⟨0, by omega, rfl, by rw [show offF wt iv ((0 : Nat) : Int) = 0 from if_neg (by omega)], by
      rw [show bSt wt iv rp G ((0 : Nat) : Int) = GS.new wt iv rp from if_neg (by omega), show cSt wt iv rp ((0 : Nat) : Int) = GS.new wt iv rp by unfold cSt; rw [if_neg (by omega), if_neg (by omega)]]
      exact HZ0.out⟩
    case round =>
      obtain ⟨k, hkg, rfl, rfl, hz⟩ := hrel
      have HZ := Lib.hid hz
      clear hz HZ0
      cases gk with
      | zero =>
        obtain rfl : k = 120 := by omega
        have HOF := Lib.hid (show offF wt iv ((120 : Nat) : Int) = 1 from if_pos (by omega))
        have HBE := Lib.hid (show (bSt wt iv rp G ((120 : Nat) : Int)).st = 0 by rw [show bSt wt iv rp G ((120 : Nat) : Int) = GS.new wt iv rp from if_neg (by omega)]; rfl)
        have HCE := Lib.hid (show (cSt wt iv rp ((120 : Nat) : Int)).st = 0 by rw [show cSt wt iv rp ((120 : Nat) : Int) = GS.new wt iv rp by unfold cSt; rw [if_neg (by omega), if_neg (by omega)]]; rfl)
        rw [HOF.out]
        generalize bSt wt iv rp G ((120 : Nat) : Int) = sb at *
        generalize cSt wt iv rp ((120 : Nat) : Int) = sc at *
        go_wp2_with fail
        (with_reducible refine (gidle_any gb sb _ HZ.out.b).mono ?_); rintro e wq ⟨rfl, rfl⟩
        rw [HBE.out]
        go_wp2_with fail
        (with_reducible refine (gidle_any gc sc _ HZ.out.c).mono ?_); rintro e wq ⟨rfl, rfl⟩
        rw [HCE.out]
        go_wp2_with fail
        (with_reducible refine (group_runs _).mono ?_); rintro e wq ⟨rfl, hbq⟩
        have HQ := Lib.hid (HZ.out.below hbq)
        clear hbq
        go_wp2_with fail
        go_ret
        exact ⟨rfl, HQ.out.bel⟩
      | succ g2 =>
        have hk : k < 120 := by omega
        have HBS := Lib.hid (bSt_step wt iv rp G k (by omega) hG0 hG1)
        have HCS := Lib.hid (cSt_step wt iv rp k (by omega) hw0 hi0)
        have HIB := Lib.hid (bSt_in wt iv rp G k (by omega) (by omega))
        have HIC := Lib.hid (cSt_in wt iv rp k (by omega) (by omega) ⟨hw0, hw1⟩)
        have HKC := Lib.hid (show ((k + 1 : Nat) : Int) = (k : Int) + 1 by omega)
        obtain ⟨e0, e1, e2⟩ := box3 HZ.out.box
        go_wp2_with fail
        (with_reducible refine (tick_is HZ.out.a (Sees.nil (B := wr.heap.size)) none_ne (by omega) (by omega) (fun h => absurd (new_st _ _ _) h) (fun h => absurd ((new_st _ _ _).symm.trans h) (by omega)) (by simp [GS.new]) (new_still wt iv rp k)).mono ?_); rintro e w3 ⟨A3, c3, rfl, hg3, hs3, ho3⟩
        have HZ1 := Lib.hid (HZ.out.tickA hg3 ho3 hga (by omega) (by omega))
        clear hg3 hs3 ho3 HZ e0 e1 e2
        have HZ := HZ1
        clear HZ1
        obtain ⟨e0, e1, e2⟩ := box3 HZ.out.box
        go_wp2_with fail
        (with_reducible refine (gidle_any ga _ _ HZ.out.a).mono ?_); rintro e wq ⟨rfl, rfl⟩
        rw [show decide ((GS.new wt iv rp).st = 0) = true from rfl]
        go_wp2_with fail
        (with_reducible refine (gnext_any ga _ _ HZ.out.a ⟨by simp [GS.new], by simp [GS.new]⟩ ⟨by simp [GS.new], by simp [GS.new]⟩).mono ?_); rintro e wq ⟨rfl, m4, rfl⟩
        rw [show (GS.new wt iv rp).next = -1 from rfl]
        have HZ1 := Lib.hid (HZ.out.drewN m4)
        clear HZ e0 e1 e2
        have HZ := HZ1
        clear HZ1
        generalize w3.drewN m4 = w4 at *
        obtain ⟨e0, e1, e2⟩ := box3 HZ.out.box
        by_cases hbg : (k : Int) < G
        · have tbx : True := trivial
          rw [decide_eq_true hbg] at HBS
          go_wp2_with fail
          (with_reducible refine (HWI.out _).mono ?_); rintro e wq ⟨rfl, rfl⟩
          go_wp2_with fail
          (with_reducible refine (tick_is (HZ.out.alloc _).b (one_sees _) (one_ne HZ.out.b) (by omega) (by omega) HIB.out.1 HIB.out.2.1 HIB.out.2.2 HBS.out).mono ?_); rintro e w5 ⟨A5, c5, rfl, hg5, hs5, ho5⟩
          have HZ2 := Lib.hid ((HZ.out.alloc _).tickB hg5 ho5 (by omega) (by omega) (by omega))
          clear hg5 hs5 ho5 HZ e0 e1 e2
          have HZ := HZ2
          clear HZ2
          obtain ⟨e0, e1, e2⟩ := box3 HZ.out.box
          by_cases hcw : (k : Int) ≤ wt
          · have tcx : True := trivial
            rw [decide_eq_true hcw] at HCS
            go_wp2_with fail
            (with_reducible refine (tick_is (HZ.out.alloc _).c (one_sees _) (one_ne HZ.out.c) (by omega) (by omega) HIC.out.1 HIC.out.2.1 HIC.out.2.2 HCS.out).mono ?_); rintro e w6 ⟨A6, c6, rfl, hg6, hs6, ho6⟩
            have HZ3 := Lib.hid ((HZ.out.alloc _).tickC hg6 ho6 (by omega) (by omega) (by omega))
            clear hg6 hs6 ho6 HZ
            by_cases ht1 : (k : Int) = wt
            · have hk2 : ¬ (k : Int) = wt + iv := by omega
              have HOF := Lib.hid ((offF_step wt iv k).trans (if_neg hk2))
              rw [decide_eq_true ht1, decide_eq_false hk2]
              clear ht1 hk2
              go_wp2_with fail
              all_goals
                go_roundg g2
                case measure => omega
                case rel => exact ⟨k + 1, by omega, by go_num, by rw [HKC.out, HOF.out], by rw [HKC.out]; exact HZ3.out⟩
            · by_cases hk2 : (k : Int) = wt + iv
              · have HOF := Lib.hid ((offF_step wt iv k).trans (if_pos hk2))
                rw [decide_eq_false ht1, decide_eq_true hk2]
                clear ht1 hk2
                have hob := offF_in wt iv k
                generalize offF wt iv k = ofk at *
                go_wp2_with fail
                all_goals
                  go_roundg g2
                  case measure => omega
                  case rel => exact ⟨k + 1, by omega, by go_num, by rw [HKC.out, HOF.out], by rw [HKC.out]; exact HZ3.out⟩
              · have HOF := Lib.hid ((offF_step wt iv k).trans (if_neg hk2))
                rw [decide_eq_false ht1, decide_eq_false hk2]
                clear ht1 hk2
                go_wp2_with fail
                all_goals
                  go_roundg g2
                  case measure => omega
                  case rel => exact ⟨k + 1, by omega, by go_num, by rw [HKC.out, HOF.out], by rw [HKC.out]; exact HZ3.out⟩
          · exfalso; omega
        · have tbx : True := trivial
          rw [decide_eq_false hbg] at HBS
          go_wp2_with fail
          (with_reducible refine (HWI.out _).mono ?_); rintro e wq ⟨rfl, rfl⟩
          go_wp2_with fail
          (with_reducible refine (tick_is HZ.out.b (Sees.nil (B := w4.heap.size)) none_ne (by omega) (by omega) HIB.out.1 HIB.out.2.1 HIB.out.2.2 HBS.out).mono ?_); rintro e w5 ⟨A5, c5, rfl, hg5, hs5, ho5⟩
          have HZ2 := Lib.hid (HZ.out.tickB hg5 ho5 (by omega) (by omega) (by omega))
          clear hg5 hs5 ho5 HZ e0 e1 e2
          have HZ := HZ2
          clear HZ2
          obtain ⟨e0, e1, e2⟩ := box3 HZ.out.box
          by_cases hcw : (k : Int) ≤ wt
          · have tcx : True := trivial
            rw [decide_eq_true hcw] at HCS
            go_wp2_with fail
            (with_reducible refine (tick_is (HZ.out.alloc _).c (one_sees _) (one_ne HZ.out.c) (by omega) (by omega) HIC.out.1 HIC.out.2.1 HIC.out.2.2 HCS.out).mono ?_); rintro e w6 ⟨A6, c6, rfl, hg6, hs6, ho6⟩
            have HZ3 := Lib.hid ((HZ.out.alloc _).tickC hg6 ho6 (by omega) (by omega) (by omega))
            clear hg6 hs6 ho6 HZ
            by_cases ht1 : (k : Int) = wt
            · have hk2 : ¬ (k : Int) = wt + iv := by omega
              have HOF := Lib.hid ((offF_step wt iv k).trans (if_neg hk2))
              rw [decide_eq_true ht1, decide_eq_false hk2]
              clear ht1 hk2
              go_wp2_with fail
              all_goals
                go_roundg g2
                case measure => omega
                case rel => exact ⟨k + 1, by omega, by go_num, by rw [HKC.out, HOF.out], by rw [HKC.out]; exact HZ3.out⟩
            · by_cases hk2 : (k : Int) = wt + iv
              · have HOF := Lib.hid ((offF_step wt iv k).trans (if_pos hk2))
                rw [decide_eq_false ht1, decide_eq_true hk2]
                clear ht1 hk2
                have hob := offF_in wt iv k
                generalize offF wt iv k = ofk at *
                go_wp2_with fail
                all_goals
                  go_roundg g2
                  case measure => omega
                  case rel => exact ⟨k + 1, by omega, by go_num, by rw [HKC.out, HOF.out], by rw [HKC.out]; exact HZ3.out⟩
              · have HOF := Lib.hid ((offF_step wt iv k).trans (if_neg hk2))
                rw [decide_eq_false ht1, decide_eq_false hk2]
                clear ht1 hk2
                go_wp2_with fail
                all_goals
                  go_roundg g2
                  case measure => omega
                  case rel => exact ⟨k + 1, by omega, by go_num, by rw [HKC.out, HOF.out], by rw [HKC.out]; exact HZ3.out⟩
          · have tcx : True := trivial
            rw [decide_eq_false hcw] at HCS
            go_wp2_with fail
            (with_reducible refine (tick_is HZ.out.c (Sees.nil (B := w5.heap.size)) none_ne (by omega) (by omega) HIC.out.1 HIC.out.2.1 HIC.out.2.2 HCS.out).mono ?_); rintro e w6 ⟨A6, c6, rfl, hg6, hs6, ho6⟩
            have HZ3 := Lib.hid (HZ.out.tickC hg6 ho6 (by omega) (by omega) (by omega))
            clear hg6 hs6 ho6 HZ
            by_cases ht1 : (k : Int) = wt
            · have hk2 : ¬ (k : Int) = wt + iv := by omega
              have HOF := Lib.hid ((offF_step wt iv k).trans (if_neg hk2))
              rw [decide_eq_true ht1, decide_eq_false hk2]
              clear ht1 hk2
              go_wp2_with fail
              all_goals
                go_roundg g2
                case measure => omega
                case rel => exact ⟨k + 1, by omega, by go_num, by rw [HKC.out, HOF.out], by rw [HKC.out]; exact HZ3.out⟩
            · by_cases hk2 : (k : Int) = wt + iv
              · have HOF := Lib.hid ((offF_step wt iv k).trans (if_pos hk2))
                rw [decide_eq_false ht1, decide_eq_true hk2]
                clear ht1 hk2
                have hob := offF_in wt iv k
                generalize offF wt iv k = ofk at *
                go_wp2_with fail
                all_goals
                  go_roundg g2
                  case measure => omega
                  case rel => exact ⟨k + 1, by omega, by go_num, by rw [HKC.out, HOF.out], by rw [HKC.out]; exact HZ3.out⟩
              · have HOF := Lib.hid ((offF_step wt iv k).trans (if_neg hk2))
                rw [decide_eq_false ht1, decide_eq_false hk2]
                clear ht1 hk2
                go_wp2_with fail
                all_goals
                  go_roundg g2
                  case measure => omega
                  case rel => exact ⟨k + 1, by omega, by go_num, by rw [HKC.out, HOF.out], by rw [HKC.out]; exact HZ3.out⟩
end Go.Proofs.Ytjcbigkmmjcmdaa
