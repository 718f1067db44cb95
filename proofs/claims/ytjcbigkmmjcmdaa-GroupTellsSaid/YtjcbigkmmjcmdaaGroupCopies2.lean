/- The walk of GroupCopies. -/
import Derived.Test.YtjcbigkmmjcmdaaGroupCopies
namespace Go.Proofs.Ytjcbigkmmjcmdaa
open Go.ChangeShapes Go.WideShapes Go.ChangeAt Go.RowKit
set_option linter.unusedVariables false
set_option linter.unusedSimpArgs false
set_option maxRecDepth 100000
/-- A group, its timing, and its copy, if there is one. -/
structure CpAt (w0 : World) (bx g : Nat) (wt iv rp : Int) (x : Option Nat) (s : GS) (w : World) : Prop where
  box : Blk w bx 25 [.int .i64 wt, .int .i64 iv, .int .i64 rp]
  a : GAt w g s
  ga : w0.heap.size ≤ g
  c : ∀ h, x = some h → GAt w h s ∧ h ≠ g ∧ w0.heap.size ≤ h
  bel : Below w0.heap.size w0 w
section
variable {w0 w w' : World} {bx g : Nat} {wt iv rp : Int} {x : Option Nat} {s s' : GS}
theorem CpAt.below (h : CpAt w0 bx g wt iv rp x s w) (hb : Below w.heap.size w w') : CpAt w0 bx g wt iv rp x s w' :=
  ⟨h.box.below hb h.box.lt, h.a.below hb, h.ga, fun y hy => ⟨(h.c y hy).1.below hb, (h.c y hy).2⟩, h.bel.trans (hb.mono h.bel.size)⟩
theorem CpAt.drewN (h : CpAt w0 bx g wt iv rp x s w) (n : Nat) : CpAt w0 bx g wt iv rp x s (w.drewN n) := h.below (belowD (Below.refl _ _) n)
/-- Ahead of the copy's tick: the group has gone on. -/
structure CpMid (w0 : World) (bx g h : Nat) (wt iv rp : Int) (s s' : GS) (w : World) : Prop where
  box : Blk w bx 25 [.int .i64 wt, .int .i64 iv, .int .i64 rp]
  a : GAt w g s'
  ga : w0.heap.size ≤ g
  c : GAt w h s
  ne : h ≠ g
  ha : w0.heap.size ≤ h
  bel : Below w0.heap.size w0 w
theorem CpAt.tick1 {h : Nat} (H : CpAt w0 bx g wt iv rp (some h) s w) (hg : GAt w' g s') (ho : w.grownBy w' (some g)) : CpMid w0 bx g h wt iv rp s s' w' :=
  ⟨H.box.grown ho (fun e => H.box.notG H.a timing_ne_group (by injection e)), hg, H.ga, (H.c h rfl).1.other H.a ho (H.c h rfl).2.1, (H.c h rfl).2.1, (H.c h rfl).2.2, H.bel.grown ho H.bel.size (fun k hk => by injection hk with hk; have := H.ga; omega)⟩
theorem CpAt.tick0 (H : CpAt w0 bx g wt iv rp none s w) (hg : GAt w' g s') (ho : w.grownBy w' (some g)) : CpAt w0 bx g wt iv rp none s' w' :=
  ⟨H.box.grown ho (fun e => H.box.notG H.a timing_ne_group (by injection e)), hg, H.ga, (fun y hy => by cases hy), H.bel.grown ho H.bel.size (fun k hk => by injection hk with hk; have := H.ga; omega)⟩
theorem CpMid.tick2 {h : Nat} (H : CpMid w0 bx g h wt iv rp s s' w) (hg : GAt w' h s') (ho : w.grownBy w' (some h)) : CpAt w0 bx g wt iv rp (some h) s' w' :=
  ⟨H.box.grown ho (fun e => H.box.notG H.c timing_ne_group (by injection e)), H.a.other H.c ho (Ne.symm H.ne), H.ga, (fun y hy => by injection hy with hy; subst hy; exact ⟨hg, H.ne, H.ha⟩), H.bel.grown ho H.bel.size (fun k hk => by injection hk with hk; have := H.ha; omega)⟩
end
def ptrO (x : Option Nat) : Value := .pointer (x.map fun h => ⟨h, 0, none⟩)
/-- The alerts of a tick: new texts. -/
structure AlAt (A : Option Addr) (c : Nat) (al : List ByteArray) (w : World) : Prop where
  sees : Sees w w.heap.size 1 A al.length (strs al)
  typed : Typed w 9 A al.length
  caps : al.length ≤ c ∧ c ≤ 9223372036854775807
  some_ : al ≠ [] ∧ al.length ≤ 3
theorem AlAt.below {A : Option Addr} {c : Nat} {al : List ByteArray} {w w' : World} (h : AlAt A c al w) (hb : Below w.heap.size w w') : AlAt A c al w' :=
  ⟨(h.sees.below hb).more hb.size, h.typed.below hb (sees_lt h.sees), h.caps, h.some_⟩
theorem AlAt.ne {A : Option Addr} {c g : Nat} {al : List ByteArray} {w : World} {s : GS} (h : AlAt A c al w) (hg : GAt w g s) : ∀ ad, A = some ad → 0 < al.length → ad.block ≠ g := by
  obtain ⟨A', c', hk, _⟩ := hg
  exact h.typed.ne hk group_ne_string
theorem AlAt.tick {A : Option Addr} {c g : Nat} {al : List ByteArray} {w w' : World} {s : GS} (h : AlAt A c al w) (hg : GAt w g s) (ho : w.grownBy w' (some g)) : AlAt A c al w' :=
  ⟨h.sees.grownX (h.ne hg) (Nat.le_refl _) ho, fun ad ha hn => by
    obtain ⟨cs, f, e⟩ := h.typed ad ha hn
    exact ⟨cs, f, (ho.block ad.block (sees_lt h.sees ad ha hn) (fun e2 => h.ne hg ad ha hn (by injection e2))).trans e⟩, h.caps, h.some_⟩
theorem alAt_of {w w' : World} {e : Ending} {q : Nat} (hq : 1 ≤ q ∧ q < 8) (h : OwnAns 9 1 (alertsF q).length (strs (alertsF q)) w e w') : ∃ A c, e = .returned (.slice A (alertsF q).length c) ∧ AlAt A c (alertsF q) w' ∧ Below w.heap.size w w' := by
  obtain ⟨A, c, h1, h2, h3, h4, h5⟩ := h
  exact ⟨A, c, h1, ⟨Sees.of_own h2, Typed.of_own h2, ⟨h4, h5⟩, alertsF_some q hq.2 hq.1⟩, h3⟩
theorem alerts_3 (w : World) : Calls Try.prog 17 #[.int .i64 3] w (OwnAns 9 1 (alertsF 3).length (strs (alertsF 3)) w) := alerts_any 3 w (by omega)
set_option maxHeartbeats 4000000 in
theorem group_copies (a b c : Int) (AN : Option Addr) (nn cn : Nat) (ns : List Int) (at_ : Int) (w : World) (ha : I64 a) (hb : I64 b) (hc : I64 c) (hN : Sees w w.heap.size 1 AN nn (ints ns)) (hnn : nn ≤ 9223372036854775807) (hnz : ∀ z ∈ ns, I64 z) (hat : I64 at_) :
    Calls Try.prog 7 #[.int .i64 a, .int .i64 b, .int .i64 c, .slice AN nn cn, .int .i64 at_] w fun e w' => e = .returned (.bool true) ∧ Below w.heap.size w w' := by
  obtain ⟨hw0, hw1, hi0, hi1, hr0, hr1, hok⟩ := timing_ok a b c
  have HT := Lib.hid (timing_any a b c w ha hb hc)
  have HNW := Lib.hid (fun W => gnew_yes (wtF a) (ivF b) (rpF c) W hok)
  have HWI := Lib.hid (fun W => within_any at_ 0 40 W hat (by omega) (by omega) (by omega))
  have HNS := Lib.hid hN; have HNZ := Lib.hid hnz
  have HNL := Lib.hid hN.int_len
  obtain ⟨hk0, hk1⟩ := nWithin_in at_ (lo := 0) (hi := 40) (by omega)
  generalize nWithin at_ 0 40 = kk' at *
  obtain ⟨kk, rfl⟩ := Int.eq_ofNat_of_zero_le hk0
  generalize wtF a = wt at *
  generalize ivF b = iv at *
  generalize rpF c = rp at *
  clear hok ha hb hc hat hN hnz
  go_enter Try.func7, Try.ntmps7
  go_wp2_with fail
  (with_reducible refine HT.out.mono ?_); rintro e w1 ⟨rfl, hb⟩
  have HK := Lib.hid ((Blk.mk (heap_alloc_new w1 (.cells #[.int .i64 wt, .int .i64 iv, .int .i64 rp] 25)) : Blk _ _ 25 [.int .i64 wt, .int .i64 iv, .int .i64 rp]))
  have HB2 := Lib.hid (hb.alloc hb.size (.cells #[.int .i64 wt, .int .i64 iv, .int .i64 rp] 25))
  clear hb HT
  obtain ⟨bx, hbx⟩ : ∃ b, w1.heap.size = b := ⟨_, rfl⟩
  rw [hbx] at HK
  have HBX := Lib.hid hbx
  clear hbx
  go_wp2_with fail
  (with_reducible refine (HNW.out _).mono ?_); rintro e w2 ⟨g, rfl, hg, hge, hb⟩
  rw [HBX.out]
  have HC := Lib.hid (show CpAt w bx g wt iv rp none (GS.new wt iv rp) w2 from ⟨HK.out.below hb HK.out.lt, hg, Nat.le_trans HB2.out.size hge, (fun y hy => by cases hy), HB2.out.trans (hb.mono HB2.out.size)⟩)
  clear hg hb HNW HK HB2 HBX
  go_wp2_with fail
  (with_reducible refine (HWI.out _).mono ?_); rintro e wq ⟨rfl, rfl⟩
  go_wp2_with fail
  go_loopg [14, 15] 60 (fun g2 x14 x15 wr => ∃ (t : Nat) (x : Option Nat) (s : GS), t + g2 = 60 ∧ x15 = .int .i64 t ∧ x14 = ptrO x ∧ (x = none ↔ t ≤ kk) ∧ GInv wt iv rp t s ∧ CpAt w bx g wt iv rp x s wr)
  case atStart => exact ⟨0, none, GS.new wt iv rp, by omega, rfl, rfl, by simp, GInv.start wt iv rp, HC.out⟩
  case round =>
    obtain ⟨t, x, s, htg, rfl, rfl, hx, hinv, hcp⟩ := hrel
    have HX := Lib.hid hx; have HI := Lib.hid hinv
    have HCR := Lib.hid hcp
    clear hx hinv hcp HC HWI
    cases gk with
    | zero =>
      obtain rfl : t = 60 := by omega
      cases x with
      | none => exfalso; have := HX.out.1 rfl; omega
      | some h =>
        have hst : s.st ≠ 0 := by
          have h1 := HI.out.st
          rcases h1 with ⟨h1, _⟩ | ⟨_, h1⟩
          · omega
          · omega
        have HS := Lib.hid (decide_eq_false hst)
        clear hst
        unfold ptrO
        go_wp2_with fail
        (with_reducible refine (gidle_any g s _ HCR.out.a).mono ?_); rintro e wq ⟨rfl, rfl⟩
        rw [HS.out]
        go_wp2_with fail
        (with_reducible refine (group_runs _).mono ?_); rintro e wq ⟨rfl, hbq⟩
        have HQ := Lib.hid (HCR.out.below hbq)
        clear hbq
        go_wp2_with fail
        go_ret
        exact ⟨rfl, HQ.out.bel⟩
    | succ g2 =>
      have ht60 : t < 60 := by omega
      go_wp2_with fail
      (with_reducible refine (alerts_3 _).mono ?_); rintro e w3 haa; obtain ⟨A3, c3, rfl, ha3, hb3⟩ := alAt_of (by omega) haa
      have HC3 := Lib.hid (HCR.out.below hb3); have HA3 := Lib.hid ha3
      clear haa ha3 hb3 HCR
      go_upto_if 40 with (fail)
      go_cut [16] (fun x16 wx => ∃ A c al, x16 = .slice A al.length c ∧ AlAt A c al wx ∧ CpAt w bx g wt iv rp x s wx)
      case first =>
        by_cases htn : t < nn
        · obtain ⟨ad, hkl, rfl, e0⟩ := (HNS.out.below HC3.out.bel).int htn
          have hz := HNZ.out ns[t] (List.getElem_mem _)
          generalize ns[t] = z at *
          obtain ⟨hq0, hq1⟩ := nWithin_in z (lo := 1) (hi := 7) (by omega)
          have HWZ := Lib.hid (fun W => within_any z 1 7 W hz (by omega) (by omega) (by omega))
          generalize nWithin z 1 7 = q' at *
          obtain ⟨q, rfl⟩ := Int.eq_ofNat_of_zero_le (show 0 ≤ q' by omega)
          go_wp2_with fail
          (with_reducible refine (HWZ.out _).mono ?_); rintro e wq ⟨rfl, rfl⟩
          go_wp2_with fail
          (with_reducible refine (alerts_any q _ (by omega)).mono ?_); rintro e w4 haa; obtain ⟨A4, c4, rfl, ha4, hb4⟩ := alAt_of (by omega) haa
          have HC4 := Lib.hid (HC3.out.below hb4); have HA4 := Lib.hid ha4
          clear haa ha4 hb4 HC3 HA3
          go_wp2_with fail
          go_meet
          exact ⟨A4, c4, _, rfl, HA4.out, HC4.out⟩
        · have hd : ((t : Int) < nn) = False := by simp; omega
          go_wp2_with fail
          go_meet
          exact ⟨A3, c3, _, rfl, HA3.out, HC3.out⟩
      case rest =>
        obtain ⟨A, cA, al, rfl, hal, hcp⟩ := hcut
        have HA := Lib.hid hal; have HCR := Lib.hid hcp
        clear hal hcp HC3 HA3
        go_upto_if 49 with (fail)
        go_cut [14] (fun x14 wx => ∃ x : Option Nat, x14 = ptrO x ∧ (x = none ↔ t < kk) ∧ AlAt A cA al wx ∧ CpAt w bx g wt iv rp x s wx)
        case first =>
          by_cases htk : t = kk
          · subst htk
            obtain rfl : x = none := HX.out.2 (Nat.le_refl _)
            unfold ptrO
            go_wp2_with fail
            (with_reducible refine (gcopy_any g s _ HCR.out.a).mono ?_); rintro e w4 ⟨h, rfl, hg4, hl4, hb4⟩
            have HC4 := Lib.hid (show CpAt w bx g wt iv rp (some h) s w4 from ⟨HCR.out.box.below hb4 HCR.out.box.lt, HCR.out.a.below hb4, HCR.out.ga, (fun y hy => by
              injection hy with hy; subst hy
              exact ⟨hg4, by have := HCR.out.a.lt; omega, Nat.le_trans HCR.out.bel.size hl4⟩), HCR.out.bel.trans (hb4.mono HCR.out.bel.size)⟩)
            have HA4 := Lib.hid (HA.out.below hb4)
            clear hg4 hb4 HCR HA
            go_wp2_with fail
            go_meet
            exact ⟨some h, rfl, by simp, HA4.out, HC4.out⟩
          · have hd : ((t : Int) == kk) = false := beq_eq_false_iff_ne.2 (by omega)
            go_wp2_with fail
            go_meet
            exact ⟨x, rfl, by rw [HX.out]; omega, HA.out, HCR.out⟩
        case rest =>
          obtain ⟨y, rfl, hy, hal, hcp⟩ := hcut
          have HA2 := Lib.hid hal; have HC2 := Lib.hid hcp
          have HY := Lib.hid hy
          clear hal hcp hy HA HCR HX
          have hin := HI.out.in_ (show (t : Int) ≤ 200 by omega)
          obtain ⟨hi1', hi2', hi3'⟩ := HI.out.step HA2.out.some_.1 HA2.out.some_.2 ⟨hw0, hw1⟩ ⟨hi0, hi1⟩ ⟨by omega, by omega⟩
          have HIN := Lib.hid hin
          have HS1 := Lib.hid hi1'; have HS2 := Lib.hid hi2'; have HS3 := Lib.hid hi3'
          clear hin hi1' hi2' hi3'
          go_upto_region 17 with fail
          go_cut [17] (fun x17 wx => x17 = .bool (lookB s t) ∧ AlAt A cA al wx ∧ CpAt w bx g wt iv rp y s wx)
          case first =>
            have hsn := HI.out.since
            have hwn := HI.out.wait
            by_cases h0 : s.st = 0
            · have HL := Lib.hid (show lookB s t = false by simp [lookB, h0])
              have HD := Lib.hid (decide_eq_true h0)
              clear h0
              go_wp2_with fail
              (with_reducible refine (gidle_any g s _ HC2.out.a).mono ?_); rintro e wq ⟨rfl, rfl⟩
              rw [HD.out]
              go_wp2_with fail
              go_meet
              exact ⟨by rw [HL.out], HA2.out, HC2.out⟩
            · have HL := Lib.hid (show lookB s t = decide (s.next ≤ t) by simp [lookB, h0])
              have HD := Lib.hid (decide_eq_false h0)
              clear h0
              have HNX := Lib.hid (fun W h => gnext_any g s W h ⟨hsn.1, by omega⟩ ⟨hwn.1, by omega⟩)
              go_wp2_with fail
              (with_reducible refine (gidle_any g s _ HC2.out.a).mono ?_); rintro e wq ⟨rfl, rfl⟩
              rw [HD.out]
              go_wp2_with fail
              (with_reducible refine (HNX.out _ HC2.out.a).mono ?_); rintro e wq ⟨rfl, m, rfl⟩
              generalize s.next = nx at *
              go_wp2_with fail
              go_meet
              exact ⟨by rw [HL.out], HA2.out.below (belowD (Below.refl _ _) m), HC2.out.drewN m⟩
          case rest =>
            obtain ⟨rfl, hal, hcp⟩ := hcut
            have HA := Lib.hid hal; have HC := Lib.hid hcp
            clear hal hcp HA2 HC2
            have HTC := Lib.hid (tick_any g s t A al.length cA al wc HC.out.a HA.out.sees (HA.out.ne HC.out.a) (by have := HA.out.some_.2; omega) HA.out.caps HIN.out.1 HIN.out.2.1 HIN.out.2.2)
            obtain ⟨lk, hlk⟩ : ∃ b, lookB s t = b := ⟨_, rfl⟩
            rw [hlk] at HS2 HS3
            rw [hlk]
            clear hlk
            have HNG := Lib.hid (fun W h => gnext_any g (s.tick t al).1 W h ⟨HS1.out.since.1, by have := HS1.out.since.2; omega⟩ ⟨HS1.out.wait.1, by have := HS1.out.wait.2; omega⟩)
            cases y with
            | none =>
              obtain ⟨r, hr⟩ : ∃ r, s.tick t al = r := ⟨_, rfl⟩
              rw [hr] at HTC HS1 HS2 HS3 HNG
              clear hr
              obtain ⟨s', told, ok⟩ := r
              simp only at HTC HS1 HS2 HS3 HNG
              unfold ptrO
              go_wp2_with fail
              (with_reducible refine HTC.out.mono ?_); rintro e w6 ⟨A6, c6, rfl, hg6, hs6, ho6⟩
              have HC6 := Lib.hid (HC.out.tick0 hg6 ho6)
              clear hg6 hs6 ho6 HC HTC HA
              go_upto_region 23 with fail
              go_cut [120] (fun x120 wx => x120 = .bool false ∧ CpAt w bx g wt iv rp none s' wx)
              case first =>
                obtain ⟨e0, e1, e2⟩ := box3 HC6.out.box
                have q1 : IntKind.i64.wrap ((t : Int) + iv) = (t : Int) + iv := IntWalk.i64_in _ (by omega)
                cases lk with
                | true =>
                  have HNX := Lib.hid (HS3.out rfl)
                  clear HS2 HS3
                  rw [HNX.out] at HNG
                  cases ok with
                  | true =>
                    go_quiet ((refine ((HNG.out _ (HC6.out.drewN _).a).mono fun e w'' hh => ⟨hh.1, ?_⟩); obtain ⟨m, rfl⟩ := hh.2; exact ⟨_, World.drewN_drewN _ _ _⟩))
                    go_wp2_with fail
                    go_meet
                    exact ⟨rfl, HC6.out.drewN _⟩
                  | false =>
                    go_quiet ((refine ((HNG.out _ (HC6.out.drewN _).a).mono fun e w'' hh => ⟨hh.1, ?_⟩); obtain ⟨m, rfl⟩ := hh.2; exact ⟨_, World.drewN_drewN _ _ _⟩))
                    go_wp2_with fail
                    go_meet
                    exact ⟨rfl, HC6.out.drewN _⟩
                | false =>
                  cases ok with
                  | true =>
                    have hz : wt = 0 ∧ (t : Int) = 0 := by
                      rcases HS2.out rfl with h | h
                      · cases h
                      · exact h
                    have z1 : decide (0 < wt) = false := decide_eq_false (by omega)
                    have z2 : decide (0 < (t : Int)) = false := decide_eq_false (by omega)
                    have z3 : ¬ (0 < t) := by omega
                    have z4 : decide (0 < t) = false := decide_eq_false z3
                    clear HS2 HS3 hz z3
                    go_quiet (fail)
                    go_wp2_with fail
                    go_meet
                    exact ⟨rfl, HC6.out.drewN _⟩
                  | false =>
                    clear HS2 HS3
                    go_quiet (fail)
                    go_wp2_with fail
                    go_meet
                    exact ⟨rfl, HC6.out.drewN _⟩
              case rest =>
                obtain ⟨rfl, hcp⟩ := hcut
                have HCE := Lib.hid hcp
                clear hcp HC6
                go_wp2_with fail
                go_roundg g2
                case measure => omega
                case rel => exact ⟨t + 1, none, s', by omega, by go_num, rfl, ⟨fun _ => by have h3 := HY.out; simp at h3; omega, fun _ => rfl⟩, by have h := HS1.out; rwa [show (t : Int) + 1 = ((t + 1 : Nat) : Int) by omega] at h, HCE.out⟩
            | some h =>
              have HTH := Lib.hid (fun W (hg : GAt W h s) (ha : AlAt A cA al W) => tick_any h s t A al.length cA al W hg ha.sees (ha.ne hg) (by have := ha.some_.2; omega) ha.caps HIN.out.1 HIN.out.2.1 HIN.out.2.2)
              have HNH := Lib.hid (fun W hg => gnext_any h (s.tick t al).1 W hg ⟨HS1.out.since.1, by have := HS1.out.since.2; omega⟩ ⟨HS1.out.wait.1, by have := HS1.out.wait.2; omega⟩)
              obtain ⟨r, hr⟩ : ∃ r, s.tick t al = r := ⟨_, rfl⟩
              have HTL := Lib.hid (show r.2.1.length ≤ 1000000 by
                rw [← hr]
                have h3 := HA.out.some_.2
                unfold GS.tick
                repeat' split
                all_goals simp only [List.length_nil]; omega)
              rw [hr] at HTC HS1 HS2 HS3 HNG HTH HNH
              clear hr
              obtain ⟨s', told, ok⟩ := r
              simp only at HTC HS1 HS2 HS3 HNG HTH HNH HTL
              unfold ptrO
              go_wp2_with fail
              (with_reducible refine HTC.out.mono ?_); rintro e w5 ⟨A5, c5, rfl, hg5, ⟨hs5, ht5⟩, ho5⟩
              have HM5 := Lib.hid (HC.out.tick1 hg5 ho5)
              have HA5 := Lib.hid (HA.out.tick HC.out.a ho5)
              have HS5 := Lib.hid hs5; have HT5 := Lib.hid ht5
              clear hg5 hs5 ht5 ho5 HC HTC HA
              go_wp2_with fail
              (with_reducible refine (HTH.out _ HM5.out.c HA5.out).mono ?_); rintro e w6 ⟨A6, c6, rfl, hg6, ⟨hs6, ht6⟩, ho6⟩
              have HC6 := Lib.hid (HM5.out.tick2 hg6 ho6)
              have HL5 := Lib.hid (HS5.out.sees.grownX (by obtain ⟨_, _, hk, _⟩ := HM5.out.c; exact HT5.out.ne hk group_ne_string) (Nat.le_refl _) ho6)
              have HL6 := Lib.hid hs6.sees
              have hll := HTL.out
              clear hg6 hs6 ht6 ho6 HM5 HA5 HS5 HT5 HTH HTL
              have t1 : (ok != ok) = false := by cases ok <;> rfl
              go_wp2_with fail
              (with_reducible refine (same_str A5 A6 told.length c5 told.length c6 _ _ told told _ HL5.out HL6.out (by omega) (by omega)).mono ?_); rintro e wq ⟨rfl, m1, rfl⟩
              rw [decide_eq_true (rfl : told = told)]
              have HC6_n := Lib.hid (HC6.out.drewN m1); clear HC6; have HC6 := HC6_n; clear HC6_n
              go_wp2_with fail
              (with_reducible refine (HNH.out _ (HC6.out.c h rfl).1).mono ?_); rintro e wq ⟨rfl, m2, rfl⟩
              rw [World.drewN_drewN]
              have HC6_n := Lib.hid (HC6.out.drewN m2); clear HC6; have HC6 := HC6_n; clear HC6_n
              rw [World.drewN_drewN] at HC6
              go_wp2_with fail
              (with_reducible refine (HNG.out _ HC6.out.a).mono ?_); rintro e wq ⟨rfl, m3, rfl⟩
              rw [World.drewN_drewN]
              have HC6_n := Lib.hid (HC6.out.drewN m3); clear HC6; have HC6 := HC6_n; clear HC6_n
              rw [World.drewN_drewN] at HC6
              generalize w6.drewN (m1 + m2 + m3) = w6 at *
              go_upto_region 23 with fail
              go_cut [120] (fun x120 wx => x120 = .bool false ∧ CpAt w bx g wt iv rp (some h) s' wx)
              case first =>
                obtain ⟨e0, e1, e2⟩ := box3 HC6.out.box
                have q1 : IntKind.i64.wrap ((t : Int) + iv) = (t : Int) + iv := IntWalk.i64_in _ (by omega)
                cases lk with
                | true =>
                  have HNX := Lib.hid (HS3.out rfl)
                  clear HS2 HS3
                  rw [HNX.out] at HNG
                  cases ok with
                  | true =>
                    go_quiet ((refine ((HNG.out _ (HC6.out.drewN _).a).mono fun e w'' hh => ⟨hh.1, ?_⟩); obtain ⟨m, rfl⟩ := hh.2; exact ⟨_, World.drewN_drewN _ _ _⟩))
                    go_wp2_with fail
                    go_meet
                    exact ⟨rfl, HC6.out.drewN _⟩
                  | false =>
                    go_quiet ((refine ((HNG.out _ (HC6.out.drewN _).a).mono fun e w'' hh => ⟨hh.1, ?_⟩); obtain ⟨m, rfl⟩ := hh.2; exact ⟨_, World.drewN_drewN _ _ _⟩))
                    go_wp2_with fail
                    go_meet
                    exact ⟨rfl, HC6.out.drewN _⟩
                | false =>
                  cases ok with
                  | true =>
                    have hz : wt = 0 ∧ (t : Int) = 0 := by
                      rcases HS2.out rfl with h | h
                      · cases h
                      · exact h
                    have z1 : decide (0 < wt) = false := decide_eq_false (by omega)
                    have z2 : decide (0 < (t : Int)) = false := decide_eq_false (by omega)
                    have z3 : ¬ (0 < t) := by omega
                    have z4 : decide (0 < t) = false := decide_eq_false z3
                    clear HS2 HS3 hz z3
                    go_quiet (fail)
                    go_wp2_with fail
                    go_meet
                    exact ⟨rfl, HC6.out.drewN _⟩
                  | false =>
                    clear HS2 HS3
                    go_quiet (fail)
                    go_wp2_with fail
                    go_meet
                    exact ⟨rfl, HC6.out.drewN _⟩
              case rest =>
                obtain ⟨rfl, hcp⟩ := hcut
                have HCE := Lib.hid hcp
                clear hcp HC6
                go_wp2_with fail
                go_roundg g2
                case measure => omega
                case rel => exact ⟨t + 1, (some h), s', by omega, by go_num, rfl, ⟨(fun h => by cases h), fun h3 => by have := HY.out.2; have h4 : ¬ (t < kk) := (fun h5 => by have := this h5; cases this); omega⟩, by have h := HS1.out; rwa [show (t : Int) + 1 = ((t + 1 : Nat) : Int) by omega] at h, HCE.out⟩
end Go.Proofs.Ytjcbigkmmjcmdaa
