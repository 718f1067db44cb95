/- klaxonref17.Group: New, Tick. -/
import Derived.Test.YtjcbigkmmjcmdaaGroup2
namespace Go.Proofs.Ytjcbigkmmjcmdaa
open Go.ChangeShapes Go.WideShapes Go.ChangeAt Go.RowKit
set_option linter.unusedVariables false
set_option linter.unusedSimpArgs false
set_option maxRecDepth 100000
/-- A group of the document's own answer: its value. -/
structure RV where
  wt : Int
  iv : Int
  rp : Int
  bg : Int
  nx : Int
  sn : Int
  lA : Option Addr
  lc : Nat
  last : List ByteArray
  nA : Option Addr
  nn : Nat
  nc : Nat
def RV.cells (r : RV) : List Value := [.int .i64 r.wt, .int .i64 r.iv, .int .i64 r.rp, .int .i64 r.bg, .int .i64 r.nx, .int .i64 r.sn, .slice r.lA r.last.length r.lc, .slice r.nA r.nn r.nc]
def RV.val (r : RV) : Value := .agg r.cells.toArray
def RV.new (wt iv rp : Int) : RV := ⟨wt, iv, rp, -1, 0, -1, none, 0, [], none, 0, 0⟩
def RV.sends (r : RV) (t : Int) (al : List ByteArray) : Bool := decide (r.sn < 0 ∧ al ≠ []) || decide (0 ≤ r.sn ∧ (r.last ≠ al ∨ r.rp ≤ t - r.sn))
def RV.wakes (r : RV) (t : Int) (A : Option Addr) (c : Nat) (al : List ByteArray) : RV := if r.bg < 0 then { r with nA := A, nn := al.length, nc := c, bg := t, nx := t + r.wt, sn := -1, lA := none, lc := 0, last := [] } else { r with nA := A, nn := al.length, nc := c }
/-- One tick: the value behind it, the alerts handed back (or none), whether they are sent. -/
def RV.tick (r : RV) (t : Int) (A : Option Addr) (c : Nat) (al : List ByteArray) : RV × Bool × Bool :=
  if r.bg < 0 ∧ al = [] then ({ r with nA := A, nn := al.length, nc := c }, false, false)
  else if t < (r.wakes t A c al).nx then (r.wakes t A c al, false, false)
  else if al = [] then (RV.new r.wt r.iv r.rp, false, decide (0 ≤ (r.wakes t A c al).sn))
  else if (r.wakes t A c al).sends t al then ({ r.wakes t A c al with nx := t + r.iv, sn := t, lA := A, lc := c, last := al }, true, true)
  else ({ r.wakes t A c al with nx := t + r.iv }, true, false)
def RefAns (r' : RV) (A : Option Addr) (c n : Nat) (back sends : Bool) (w : World) (e : Ending) (w' : World) : Prop :=
  e = .returned (.tuple #[r'.val, if back then .slice A n c else .slice none 0 0, .bool sends]) ∧ Below w.heap.size w w'
theorem refnew_any (a b c : Int) (w : World) : Calls Try.prog 14 #[.agg #[.int .i64 a, .int .i64 b, .int .i64 c]] w fun e w' => e = .returned (RV.new a b c).val ∧ Below w.heap.size w w' := by
  go_enter Try.func14, Try.ntmps14
  go_wp2_with fail
  refine bodyPost_ret (v := (RV.new a b c).val) (by simp [results, Try.results14, go_sem, RV.val, RV.new, RV.cells]) rfl ⟨rfl, ?_⟩
  exact ((Below.refl _ _).alloc (Nat.le_refl _) _).alloc (by simp) _
theorem reftick_idle (r : RV) (t : Int) (A : Option Addr) (c : Nat) (w : World) (h : r.bg < 0) : Calls Try.prog 19 #[r.val, .int .i64 t, .slice A 0 c] w (RefAns { r with nA := A, nn := 0, nc := c } A c 0 false false w) := by
  obtain ⟨wt, iv, rp, bg, nx, sn, lA, lc, last, nA, nn, nc⟩ := r
  simp only at h
  unfold RV.val RV.cells
  go_enter Try.func19, Try.ntmps19
  go_wp2_with fail
  refine bodyPost_ret (v := .tuple #[.agg #[.int .i64 wt, .int .i64 iv, .int .i64 rp, .int .i64 bg, .int .i64 nx, .int .i64 sn, .slice lA last.length lc, .slice A 0 c], .slice none 0 0, .bool false]) (by simp [results, Try.results19, go_sem]) rfl ⟨rfl, ?_⟩
  exact ((Below.refl _ _).alloc (Nat.le_refl _) _).alloc (by simp) _
theorem rv_wakes (r : RV) (t : Int) (A : Option Addr) (c : Nat) (al : List ByteArray) (h : ¬ (r.bg < 0 ∧ al = [])) (w : World) (hl : Sees w w.heap.size 1 r.lA r.last.length (strs r.last)) (hll : r.last.length ≤ 1000000) (hsn : -1 ≤ r.sn ∧ r.sn ≤ t) (ht : 0 ≤ t) :
    ∃ (bg nx sn : Int) (lA : Option Addr) (lc : Nat) (last : List ByteArray), r.wakes t A c al = ⟨r.wt, r.iv, r.rp, bg, nx, sn, lA, lc, last, A, al.length, c⟩ ∧ Sees w w.heap.size 1 lA last.length (strs last) ∧ last.length ≤ 1000000 ∧ -1 ≤ sn ∧ sn ≤ t ∧
      r.tick t A c al = if t < nx then (⟨r.wt, r.iv, r.rp, bg, nx, sn, lA, lc, last, A, al.length, c⟩, false, false) else if al = [] then (RV.new r.wt r.iv r.rp, false, decide (0 ≤ sn))
        else if (RV.mk r.wt r.iv r.rp bg nx sn lA lc last A al.length c).sends t al then (⟨r.wt, r.iv, r.rp, bg, t + r.iv, t, A, c, al, A, al.length, c⟩, true, true) else (⟨r.wt, r.iv, r.rp, bg, t + r.iv, sn, lA, lc, last, A, al.length, c⟩, true, false) := by
  obtain ⟨wt, iv, rp, bg, nx, sn, lA, lc, last, nA, nn, nc⟩ := r
  simp only at hl hll hsn h
  by_cases hb : bg < 0
  · refine ⟨t, t + wt, -1, none, 0, [], by simp [RV.wakes, hb], Sees.nil, by simp, by omega, by omega, ?_⟩
    unfold RV.tick
    rw [if_neg h]
    simp [RV.wakes, hb]
  · refine ⟨bg, nx, sn, lA, lc, last, by simp [RV.wakes, hb], hl, hll, hsn.1, hsn.2, ?_⟩
    unfold RV.tick
    rw [if_neg h]
    simp [RV.wakes, hb]
theorem res_below {w0 w : World} (h : Below w0.heap.size w0 w) (x0 x1 x2 x3 x4 x5 x6 x7 : Value) : Below w0.heap.size w0 ((((((((w.setCell ⟨w0.heap.size + 1, 0, none⟩ x0).setCell ⟨w0.heap.size + 1, 1, none⟩ x1).setCell ⟨w0.heap.size + 1, 2, none⟩ x2).setCell ⟨w0.heap.size + 1, 3, none⟩ x3).setCell ⟨w0.heap.size + 1, 4, none⟩ x4).setCell ⟨w0.heap.size + 1, 5, none⟩ x5).setCell ⟨w0.heap.size + 1, 6, none⟩ x6).setCell ⟨w0.heap.size + 1, 7, none⟩ x7) :=
  (((((((h.setCell (by simp) _).setCell (by simp) _).setCell (by simp) _).setCell (by simp) _).setCell (by simp) _).setCell (by simp) _).setCell (by simp) _).setCell (by simp) _
theorem belowD2 {B : Nat} {a w : World} (h : Below B a w) (n : Nat) : Below B a (w.drewN n) := ⟨h.os, h.tape, h.output, h.size, h.block⟩
/-- The receiver's box, and the result's. -/
structure RAt (w0 : World) (r : RV) (w : World) : Prop where
  box : Blk w w0.heap.size 35 r.cells
  res : Blk w (w0.heap.size + 1) 35 [.int .i64 0, .int .i64 0, .int .i64 0, .int .i64 0, .int .i64 0, .int .i64 0, .slice none 0 0, .slice none 0 0]
  bel : Below w0.heap.size w0 w
theorem RAt.set {w0 w : World} {r r' : RV} (h : RAt w0 r w) (i : Nat) (u : Value) (hc : r'.cells = r.cells.set i u) : RAt w0 r' (w.setCell ⟨w0.heap.size, i, none⟩ u) :=
  ⟨by rw [hc]; exact h.box.set i u, h.res.far (by simp) u, h.bel.setCell (Nat.le_refl _) u⟩
theorem RAt.below {w0 w w' : World} {r : RV} (h : RAt w0 r w) (hb : Below w.heap.size w w') : RAt w0 r w' := ⟨h.box.below hb h.box.lt, h.res.below hb h.res.lt, h.bel.trans (hb.mono h.bel.size)⟩
theorem rcells {w : World} {g : Nat} {r : RV} (h : Blk w g 35 r.cells) :
    (w.cell? ⟨g, 0, none⟩ = some (.int .i64 r.wt) ∧ w.cell? ⟨g, 1, none⟩ = some (.int .i64 r.iv) ∧ w.cell? ⟨g, 2, none⟩ = some (.int .i64 r.rp) ∧ w.cell? ⟨g, 3, none⟩ = some (.int .i64 r.bg)) ∧
    w.cell? ⟨g, 4, none⟩ = some (.int .i64 r.nx) ∧ w.cell? ⟨g, 5, none⟩ = some (.int .i64 r.sn) ∧ w.cell? ⟨g, 6, none⟩ = some (.slice r.lA r.last.length r.lc) ∧ w.cell? ⟨g, 7, none⟩ = some (.slice r.nA r.nn r.nc) :=
  ⟨⟨h.cell 0, h.cell 1, h.cell 2, h.cell 3⟩, h.cell 4, h.cell 5, h.cell 6, h.cell 7⟩
set_option maxHeartbeats 4000000 in
theorem reftick_any (r : RV) (t : Int) (A : Option Addr) (c : Nat) (al : List ByteArray) (w : World) (hs : Sees w w.heap.size 1 A al.length (strs al)) (hl : Sees w w.heap.size 1 r.lA r.last.length (strs r.last)) (hal : al.length ≤ 1000000) (hll : r.last.length ≤ 1000000)
    (ht : 0 ≤ t ∧ t ≤ 1000000) (hw : 0 ≤ r.wt ∧ r.wt ≤ 100) (hi : 0 ≤ r.iv ∧ r.iv ≤ 100) (hsn : -1 ≤ r.sn ∧ r.sn ≤ t) :
    Calls Try.prog 19 #[r.val, .int .i64 t, .slice A al.length c] w (RefAns (r.tick t A c al).1 A c al.length (r.tick t A c al).2.1 (r.tick t A c al).2.2 w) := by
  by_cases hid : r.bg < 0 ∧ al = []
  · obtain ⟨h1, rfl⟩ := hid
    have e : r.tick t A c [] = ({ r with nA := A, nn := 0, nc := c }, false, false) := by unfold RV.tick; rw [if_pos ⟨h1, rfl⟩]; rfl
    rw [e]
    exact reftick_idle r t A c w h1
  · obtain ⟨bg1, nx1, sn1, lA1, lc1, last1, hwk, hl1, hll1, hsn1, hsn2, htk⟩ := rv_wakes r t A c al hid w hl hll hsn ht.1
    have HTK := Lib.hid htk
    generalize r.tick t A c al = ans at *
    obtain ⟨wt, iv, rp, bg, nx, sn, lA, lc, last, nA, nn, nc⟩ := r
    simp only at hl hll hw hi hsn hid
    have HS := Lib.hid hs; have HL1 := Lib.hid hl1; have HWK := Lib.hid hwk; have HID := Lib.hid hid
    obtain ⟨hw0, hw1⟩ := hw
    obtain ⟨hi0, hi1⟩ := hi
    obtain ⟨ht0, ht1⟩ := ht
    clear htk hwk hs hl hl1 hid
    unfold RV.val RV.cells
    go_enter Try.func19, Try.ntmps19
    go_upto_if 14 with (fail)
    have HR0 := Lib.hid (show RAt w ⟨wt, iv, rp, bg, nx, sn, lA, lc, last, A, al.length, c⟩ _ from ⟨(Blk.mk (heap_alloc_new w (.cells #[.int .i64 wt, .int .i64 iv, .int .i64 rp, .int .i64 bg, .int .i64 nx, .int .i64 sn, .slice lA last.length lc, .slice A al.length c] 35)) : Blk _ _ _ [.int .i64 wt, .int .i64 iv, .int .i64 rp, .int .i64 bg, .int .i64 nx, .int .i64 sn, .slice lA last.length lc, .slice A al.length c]).alloc (.cells #[.int .i64 0, .int .i64 0, .int .i64 0, .int .i64 0, .int .i64 0, .int .i64 0, .slice none 0 0, .slice none 0 0] 35),
      (by have h := (Blk.mk (heap_alloc_new (w.alloc (.cells #[.int .i64 wt, .int .i64 iv, .int .i64 rp, .int .i64 bg, .int .i64 nx, .int .i64 sn, .slice lA last.length lc, .slice A al.length c] 35)) (.cells #[.int .i64 0, .int .i64 0, .int .i64 0, .int .i64 0, .int .i64 0, .int .i64 0, .slice none 0 0, .slice none 0 0] 35)) : Blk _ _ _ [.int .i64 0, .int .i64 0, .int .i64 0, .int .i64 0, .int .i64 0, .int .i64 0, .slice none 0 0, .slice none 0 0]); simpa using h),
      ((Below.refl _ _).alloc (Nat.le_refl _) _).alloc (by simp) _⟩)
    obtain ⟨W, hW⟩ : ∃ W, (w.alloc (.cells #[.int .i64 wt, .int .i64 iv, .int .i64 rp, .int .i64 bg, .int .i64 nx, .int .i64 sn, .slice lA last.length lc, .slice A al.length c] 35)).alloc (.cells #[.int .i64 0, .int .i64 0, .int .i64 0, .int .i64 0, .int .i64 0, .int .i64 0, .slice none 0 0, .slice none 0 0] 35) = W := ⟨_, rfl⟩
    rw [hW] at HR0
    rw [hW]
    clear hW
    go_cut [7, 8] (fun x7 x8 wx => RAt w ⟨wt, iv, rp, bg1, nx1, sn1, lA1, lc1, last1, A, al.length, c⟩ wx)
    case first =>
      obtain ⟨⟨e0, e1, e2, e3⟩, e4, e5, e6, e7⟩ := rcells HR0.out.box
      have f3 := HR0.out.box.frozen 3; have f4 := HR0.out.box.frozen 4; have f5 := HR0.out.box.frozen 5; have f6 := HR0.out.box.frozen 6
      simp only at e0 e1 e2 e3 e4 e5 e6 e7
      by_cases hb : bg < 0
      · have hn0 : al.length ≠ 0 := fun e => HID.out ⟨hb, List.eq_nil_of_length_eq_zero e⟩
        have b1 : ((al.length : Int) == 0) = false := beq_eq_false_iff_ne.2 (by omega)
        have hE := HWK.out
        simp [RV.wakes, hb] at hE
        obtain ⟨rfl, rfl, rfl, rfl, rfl, rfl⟩ := hE
        clear HTK HWK hn0
        go_wp2_with fail
        go_meet
        exact (((HR0.out.set (r' := ⟨wt, iv, rp, t, nx, sn, lA, lc, last, A, al.length, c⟩) 3 _ rfl).set (r' := ⟨wt, iv, rp, t, t + wt, sn, lA, lc, last, A, al.length, c⟩) 4 _ rfl).set (r' := ⟨wt, iv, rp, t, t + wt, -1, lA, lc, last, A, al.length, c⟩) 5 _ rfl).set (r' := ⟨wt, iv, rp, t, t + wt, -1, none, 0, [], A, al.length, c⟩) 6 _ rfl
      · have hE := HWK.out
        simp [RV.wakes, hb] at hE
        obtain ⟨rfl, rfl, rfl, rfl, rfl, rfl⟩ := hE
        clear HTK HWK
        go_wp2_with fail
        go_meet
        exact HR0.out
    case rest =>
      have HR := Lib.hid hcut
      clear hcut HR0 HWK HID
      obtain ⟨⟨e0, e1, e2, e3⟩, e4, e5, e6, e7⟩ := rcells HR.out.box
      have f4 := HR.out.box.frozen 4
      have k0 := HR.out.res.frozen 0; have k1 := HR.out.res.frozen 1; have k2 := HR.out.res.frozen 2; have k3 := HR.out.res.frozen 3; have k4 := HR.out.res.frozen 4; have k5 := HR.out.res.frozen 5; have k6 := HR.out.res.frozen 6; have k7 := HR.out.res.frozen 7
      have g0 := HR.out.res.cell 0; have g1 := HR.out.res.cell 1; have g2 := HR.out.res.cell 2; have g3 := HR.out.res.cell 3; have g4 := HR.out.res.cell 4; have g5 := HR.out.res.cell 5; have g6 := HR.out.res.cell 6; have g7 := HR.out.res.cell 7
      simp only [List.getElem?_cons_zero, List.getElem?_cons_succ] at g0 g1 g2 g3 g4 g5 g6 g7
      simp only at e0 e1 e2 e3 e4 e5 e6 e7
      by_cases hlt : t < nx1
      · have HE := Lib.hid (HTK.out.trans (if_pos hlt))
        clear HTK
        go_wp2_with fail
        rw [HE.out]
        refine bodyPost_ret (v := .tuple #[.agg #[.int .i64 wt, .int .i64 iv, .int .i64 rp, .int .i64 bg1, .int .i64 nx1, .int .i64 sn1, .slice lA1 last1.length lc1, .slice A al.length c], .slice none 0 0, .bool false]) ?_ rfl ⟨rfl, ?_⟩
        · simp [results, Try.results19, go_sem, g0, g1, g2, g3, g4, g5, g6, g7]
        · exact res_below HR.out.bel _ _ _ _ _ _ _ _
      · have HE := Lib.hid (HTK.out.trans (if_neg hlt))
        have q0 : ¬ (t < nx1) := hlt
        have i1 : IntKind.i64.wrap (t + iv) = t + iv := IntWalk.i64_in _ (by omega)
        clear HTK hlt
        go_upto_region 9 with fail
        have HR2 := Lib.hid (HR.out.set (r' := ⟨wt, iv, rp, bg1, t + iv, sn1, lA1, lc1, last1, A, al.length, c⟩) 4 (.int .i64 (t + iv)) rfl)
        obtain ⟨W2, hW2⟩ : ∃ W2, wc.setCell ⟨w.heap.size, 4, none⟩ (.int .i64 (t + iv)) = W2 := ⟨_, rfl⟩
        rw [hW2] at HR2
        rw [hW2]
        clear hW2 HR e0 e1 e2 e3 e4 e5 e6 e7 f4 k0 k1 k2 k3 k4 k5 k6 k7 g0 g1 g2 g3 g4 g5 g6 g7 q0 i1
        obtain ⟨sb, hsb⟩ : ∃ b, (RV.mk wt iv rp bg1 nx1 sn1 lA1 lc1 last1 A al.length c).sends t al = b := ⟨_, rfl⟩
        rw [hsb] at HE
        have HSB := Lib.hid hsb
        clear hsb
        go_cut [9] (fun x9 wx => x9 = .bool sb ∧ RAt w ⟨wt, iv, rp, bg1, t + iv, sn1, lA1, lc1, last1, A, al.length, c⟩ wx)
        case first =>
          obtain ⟨⟨e0, e1, e2, e3⟩, e4, e5, e6, e7⟩ := rcells HR2.out.box
          simp only at e0 e1 e2 e3 e4 e5 e6 e7
          by_cases hsn0 : sn1 < 0
          · have q1 : ¬ (0 ≤ sn1) := by omega
            by_cases hal0 : al = []
            · have HV := Lib.hid (show sb = false by rw [← HSB.out]; simp [RV.sends, hal0] <;> omega)
              have q2 : al.length = 0 := by rw [hal0]; rfl
              have HQ2 := Lib.hid q2
              have q4 : decide (0 < al.length) = false := decide_eq_false (by omega)
              have q3 : ¬ (0 < (al.length : Int)) := by omega
              clear hal0 HSB HE q2
              generalize al.length = nl at *
              go_wp2_with fail
              go_meet
              exact ⟨by rw [HV.out], HR2.out⟩
            · have HV := Lib.hid (show sb = true by rw [← HSB.out]; simp [RV.sends, hal0, hsn0])
              have q2 : 0 < al.length := List.length_pos_iff.2 hal0
              clear hal0 HSB HE
              generalize al.length = nl at *
              go_wp2_with fail
              go_meet
              exact ⟨by rw [HV.out], HR2.out⟩
          · have q1 : 0 ≤ sn1 := by omega
            have HSM := Lib.hid (refsame_str lA1 A last1.length lc1 al.length c _ _ last1 al W2 (HL1.out.below HR2.out.bel) (HS.out.below HR2.out.bel) (by omega) (by omega))
            have i2 : IntKind.i64.wrap (t - sn1) = t - sn1 := IntWalk.i64_in _ (by omega)
            by_cases hq : last1 = al
            · rw [decide_eq_true hq] at HSM
              have HV := Lib.hid (show sb = decide (rp ≤ t - sn1) by rw [← HSB.out]; simp [RV.sends, hq, hsn0] <;> omega)
              clear hq HSB HE
              go_wp2_with fail
              (with_reducible refine HSM.out.mono ?_); rintro e wq ⟨rfl, m, rfl⟩
              have HR3 := Lib.hid (HR2.out.below (belowD2 (Below.refl _ _) m))
              go_wp2_with fail
              go_meet
              exact ⟨by rw [HV.out], HR3.out⟩
            · rw [decide_eq_false hq] at HSM
              have HV := Lib.hid (show sb = true by rw [← HSB.out]; simp [RV.sends, hq, hsn0] <;> omega)
              clear hq HSB HE
              go_wp2_with fail
              (with_reducible refine HSM.out.mono ?_); rintro e wq ⟨rfl, m, rfl⟩
              have HR3 := Lib.hid (HR2.out.below (belowD2 (Below.refl _ _) m))
              go_wp2_with fail
              go_meet
              exact ⟨by rw [HV.out], HR3.out⟩
        case rest =>
          obtain ⟨rfl, hr⟩ := hcut
          have HR3 := Lib.hid hr
          clear hr HR2 HSB
          obtain ⟨⟨e0, e1, e2, e3⟩, e4, e5, e6, e7⟩ := rcells HR3.out.box
          have f0 := HR3.out.box.frozen 0; have f1 := HR3.out.box.frozen 1; have f2 := HR3.out.box.frozen 2; have f3 := HR3.out.box.frozen 3; have f4 := HR3.out.box.frozen 4; have f5 := HR3.out.box.frozen 5; have f6 := HR3.out.box.frozen 6; have f7 := HR3.out.box.frozen 7
          have k0 := HR3.out.res.frozen 0; have k1 := HR3.out.res.frozen 1; have k2 := HR3.out.res.frozen 2; have k3 := HR3.out.res.frozen 3; have k4 := HR3.out.res.frozen 4; have k5 := HR3.out.res.frozen 5; have k6 := HR3.out.res.frozen 6; have k7 := HR3.out.res.frozen 7
          have g0 := HR3.out.res.cell 0; have g1 := HR3.out.res.cell 1; have g2 := HR3.out.res.cell 2; have g3 := HR3.out.res.cell 3; have g4 := HR3.out.res.cell 4; have g5 := HR3.out.res.cell 5; have g6 := HR3.out.res.cell 6; have g7 := HR3.out.res.cell 7
          simp only [List.getElem?_cons_zero, List.getElem?_cons_succ] at g0 g1 g2 g3 g4 g5 g6 g7
          simp only at e0 e1 e2 e3 e4 e5 e6 e7
          by_cases hal0 : al = []
          · have HE2 := Lib.hid (HE.out.trans (if_pos hal0))
            have q2 : al.length = 0 := by rw [hal0]; rfl
            have HRN := Lib.hid (fun W => refnew_any wt iv rp W)
            have q3 : ((al.length : Int) == 0) = true := by rw [q2]; rfl
            have HB0 := HR3.out.bel
            have HDS : Hid (decide (0 ≤ sn1) = (decide (0 ≤ sn1))) := Lib.hid rfl
            clear HE hal0 q2
            unfold RV.val RV.new RV.cells at HRN
            go_wp2_with fail
            (with_reducible refine (HRN.out _).mono ?_); rintro e wq ⟨rfl, hbq⟩
            have HR4 := Lib.hid (HR3.out.below hbq)
            clear hbq HR3 e0 e1 e2 e3 e4 e5 e6 e7 f0 f1 f2 f3 f4 f5 f6 f7 k0 k1 k2 k3 k4 k5 k6 k7 g0 g1 g2 g3 g4 g5 g6 g7 HB0
            obtain ⟨⟨e0, e1, e2, e3⟩, e4, e5, e6, e7⟩ := rcells HR4.out.box
            have f0 := HR4.out.box.frozen 0; have f1 := HR4.out.box.frozen 1; have f2 := HR4.out.box.frozen 2; have f3 := HR4.out.box.frozen 3; have f4 := HR4.out.box.frozen 4; have f5 := HR4.out.box.frozen 5; have f6 := HR4.out.box.frozen 6; have f7 := HR4.out.box.frozen 7
            have k0 := HR4.out.res.frozen 0; have k1 := HR4.out.res.frozen 1; have k2 := HR4.out.res.frozen 2; have k3 := HR4.out.res.frozen 3; have k4 := HR4.out.res.frozen 4; have k5 := HR4.out.res.frozen 5; have k6 := HR4.out.res.frozen 6; have k7 := HR4.out.res.frozen 7
            have g0 := HR4.out.res.cell 0; have g1 := HR4.out.res.cell 1; have g2 := HR4.out.res.cell 2; have g3 := HR4.out.res.cell 3; have g4 := HR4.out.res.cell 4; have g5 := HR4.out.res.cell 5; have g6 := HR4.out.res.cell 6; have g7 := HR4.out.res.cell 7
            simp only [List.getElem?_cons_zero, List.getElem?_cons_succ] at g0 g1 g2 g3 g4 g5 g6 g7
            simp only at e0 e1 e2 e3 e4 e5 e6 e7
            go_wp2_with fail
            rw [HE2.out]
            refine bodyPost_ret (v := .tuple #[.agg #[.int .i64 wt, .int .i64 iv, .int .i64 rp, .int .i64 (-1), .int .i64 0, .int .i64 (-1), .slice none 0 0, .slice none 0 0], .slice none 0 0, .bool (decide (0 ≤ sn1))]) ?_ rfl ⟨rfl, ?_⟩
            · simp [results, Try.results19, go_sem, g0, g1, g2, g3, g4, g5, g6, g7]
            · refine res_below ?_ _ _ _ _ _ _ _ _
              exact ((((((((HR4.out.bel.setCell (Nat.le_refl _) _).setCell (Nat.le_refl _) _).setCell (Nat.le_refl _) _).setCell (Nat.le_refl _) _).setCell (Nat.le_refl _) _).setCell (Nat.le_refl _) _).setCell (Nat.le_refl _) _).setCell (Nat.le_refl _) _)
          · have HE2 := Lib.hid (HE.out.trans (if_neg hal0))
            have q2 : ((al.length : Int) == 0) = false := beq_eq_false_iff_ne.2 (by have := List.length_pos_iff.2 hal0; omega)
            clear HE hal0
            cases sb with
            | true =>
              have HE3 := Lib.hid (HE2.out.trans (if_pos rfl))
              clear HE2
              go_wp2_with fail
              rw [HE3.out]
              refine bodyPost_ret (v := .tuple #[.agg #[.int .i64 wt, .int .i64 iv, .int .i64 rp, .int .i64 bg1, .int .i64 (t + iv), .int .i64 t, .slice A al.length c, .slice A al.length c], .slice A al.length c, .bool true]) ?_ rfl ⟨rfl, ?_⟩
              · simp [results, Try.results19, go_sem, g0, g1, g2, g3, g4, g5, g6, g7]
              · exact res_below ((HR3.out.bel.setCell (Nat.le_refl _) _).setCell (Nat.le_refl _) _) _ _ _ _ _ _ _ _
            | false =>
              have HE3 := Lib.hid (HE2.out.trans (if_neg (by simp)))
              clear HE2
              go_wp2_with fail
              rw [HE3.out]
              refine bodyPost_ret (v := .tuple #[.agg #[.int .i64 wt, .int .i64 iv, .int .i64 rp, .int .i64 bg1, .int .i64 (t + iv), .int .i64 sn1, .slice lA1 last1.length lc1, .slice A al.length c], .slice A al.length c, .bool false]) ?_ rfl ⟨rfl, ?_⟩
              · simp [results, Try.results19, go_sem, g0, g1, g2, g3, g4, g5, g6, g7]
              · exact res_below HR3.out.bel _ _ _ _ _ _ _ _
end Go.Proofs.Ytjcbigkmmjcmdaa
