/- The walk of RouteTells. -/
import Derived.Test.YtddkkfjgdfdcnaaRTellsMath
import Derived.Test.YtddkkfjgdfdcnaaRAllMath
import Derived.Deep.RegionHeld3
import Derived.Test.YtddkkfjgdfdcnaaFactsTail
import Derived.Test.YtddkkfjgdfdcnaaFresh
namespace Go.Proofs.Ytddkkfjgdfdcnaa
open Go.ChangeShapes Go.WideShapes Go.ChangeAt Go.RowKit
set_option linter.unusedVariables false
set_option linter.unusedSimpArgs false
set_option maxRecDepth 100000
/-- The boxes of the law, and its arguments' memory. -/
structure RtAt (k : KTree) (s : KSet) (w0 : World) (b4 b7 b9 : Nat) (c : List Value) (w : World) : Prop where
  kb : Blk w b4 39 [.slice k.A k.n k.c, .slice k.A2 k.n2 k.c2, .slice k.A3 k.n3 k.c3]
  sb : Blk w b7 41 [.slice s.A s.n s.c, .slice s.A2 s.n2 s.c2]
  rb : Blk w b9 28 c
  kok : k.ok w0.heap.size w
  sok : s.ok w0.heap.size w
  bel : Below w0.heap.size w0 w
  lt : w0.heap.size ≤ b4 ∧ b4 < b7 ∧ b7 < b9
theorem RtAt.below {k : KTree} {s : KSet} {w0 : World} {b4 b7 b9 : Nat} {c : List Value} {w w' : World} (h : RtAt k s w0 b4 b7 b9 c w) (hb : Below w.heap.size w w') : RtAt k s w0 b4 b7 b9 c w' :=
  ⟨h.kb.below hb h.kb.lt, h.sb.below hb h.sb.lt, h.rb.below hb h.rb.lt, h.kok.below (hb.mono h.bel.size), h.sok.below (hb.mono h.bel.size), h.bel.trans (hb.mono h.bel.size), h.lt⟩
theorem RtAt.grown {k : KTree} {s : KSet} {w0 : World} {b4 b7 b9 : Nat} {c : List Value} {w w' : World} {row : Option Nat} (h : RtAt k s w0 b4 b7 b9 c w) (hg : w.grownBy w' row) (hr : ∀ g, row = some g → b9 < g) : RtAt k s w0 b4 b7 b9 c w' := by
  have hlt := h.lt
  have hs := h.bel.size
  have hx : ∀ A n l, Sees w w0.heap.size 1 A n l → Sees w' w0.heap.size 1 A n l := fun A n l hh => hh.grown hg hs (fun g e => by have := hr g e; omega)
  exact ⟨h.kb.grown hg (fun e => by have := hr _ e.symm; omega), h.sb.grown hg (fun e => by have := hr _ e.symm; omega), h.rb.grown hg (fun e => by have := hr _ e.symm; omega),
    ⟨hx _ _ _ h.kok.us_, h.kok.usI, h.kok.n_, hx _ _ _ h.kok.ms_, h.kok.msI, h.kok.n2_, hx _ _ _ h.kok.gs_, h.kok.gsI, h.kok.n3_⟩, ⟨hx _ _ _ h.sok.has_, h.sok.hasI, h.sok.n_, hx _ _ _ h.sok.vals_, h.sok.valsI, h.sok.n2_⟩,
    h.bel.grown hg hs (fun g e => by have := hr g e; omega), hlt⟩
theorem RtAt.set9 {k : KTree} {s : KSet} {w0 : World} {b4 b7 b9 : Nat} {c : List Value} {w : World} (h : RtAt k s w0 b4 b7 b9 c w) (i : Nat) (v : Value) : RtAt k s w0 b4 b7 b9 (c.set i v) (w.setCell ⟨b9, i, none⟩ v) := by
  have hlt := h.lt
  have hx : ∀ A n l, Sees w w0.heap.size 1 A n l → Sees (w.setCell ⟨b9, i, none⟩ v) w0.heap.size 1 A n l := fun A n l hh => hh.setCell (p := ⟨b9, i, none⟩) (by show w0.heap.size ≤ b9; omega) v
  exact ⟨h.kb.far (by show b4 ≠ b9; omega) v, h.sb.far (by show b7 ≠ b9; omega) v, h.rb.set i v,
    ⟨hx _ _ _ h.kok.us_, h.kok.usI, h.kok.n_, hx _ _ _ h.kok.ms_, h.kok.msI, h.kok.n2_, hx _ _ _ h.kok.gs_, h.kok.gsI, h.kok.n3_⟩, ⟨hx _ _ _ h.sok.has_, h.sok.hasI, h.sok.n_, hx _ _ _ h.sok.vals_, h.sok.valsI, h.sok.n2_⟩,
    h.bel.setCell (p := ⟨b9, i, none⟩) (by show w0.heap.size ≤ b9; omega) v, hlt⟩
theorem rtAt_start (k : KTree) (s : KSet) (w : World) (hk : k.ok w.heap.size w) (hs : s.ok w.heap.size w) (Am Ak : Option Addr) (lm cm lk ck : Nat) (nm : ByteArray) (gs : Bool) :
    RtAt k s w w.heap.size (w.heap.size + 1 + 1) (w.heap.size + 1 + 1 + 1) [.slice Am lm cm, .string nm, .bool gs, .slice Ak lk ck] (((((w.alloc (.cells #[.slice k.A k.n k.c, .slice k.A2 k.n2 k.c2, .slice k.A3 k.n3 k.c3] 39)).alloc (.cells #[.slice Am lm cm, .string nm, .bool gs, .slice Ak lk ck] 28)).alloc (.cells #[.slice s.A s.n s.c, .slice s.A2 s.n2 s.c2] 41)).alloc (.cells #[.slice Am lm cm, .string nm, .bool gs, .slice Ak lk ck] 28))) := by
  have s1 : (w.alloc (.cells #[.slice k.A k.n k.c, .slice k.A2 k.n2 k.c2, .slice k.A3 k.n3 k.c3] 39)).heap.size = w.heap.size + 1 := by simp
  have s2 : ((w.alloc (.cells #[.slice k.A k.n k.c, .slice k.A2 k.n2 k.c2, .slice k.A3 k.n3 k.c3] 39)).alloc (.cells #[.slice Am lm cm, .string nm, .bool gs, .slice Ak lk ck] 28)).heap.size = w.heap.size + 1 + 1 := by simp
  have s3 : (((w.alloc (.cells #[.slice k.A k.n k.c, .slice k.A2 k.n2 k.c2, .slice k.A3 k.n3 k.c3] 39)).alloc (.cells #[.slice Am lm cm, .string nm, .bool gs, .slice Ak lk ck] 28)).alloc (.cells #[.slice s.A s.n s.c, .slice s.A2 s.n2 s.c2] 41)).heap.size = w.heap.size + 1 + 1 + 1 := by simp
  have hb : Below w.heap.size w (((((w.alloc (.cells #[.slice k.A k.n k.c, .slice k.A2 k.n2 k.c2, .slice k.A3 k.n3 k.c3] 39)).alloc (.cells #[.slice Am lm cm, .string nm, .bool gs, .slice Ak lk ck] 28)).alloc (.cells #[.slice s.A s.n s.c, .slice s.A2 s.n2 s.c2] 41)).alloc (.cells #[.slice Am lm cm, .string nm, .bool gs, .slice Ak lk ck] 28))) := ((((Below.refl _ w).alloc (Nat.le_refl _) _).alloc (by rw [s1]; omega) _).alloc (by rw [s2]; omega) _).alloc (by rw [s3]; omega) _
  refine ⟨(((Blk.mk (heap_alloc_new w _)).alloc _).alloc _).alloc _, ?_, ?_, hk.below hb, hs.below hb, hb, ⟨Nat.le_refl _, by omega, by omega⟩⟩
  · have h := heap_alloc_new ((w.alloc (.cells #[.slice k.A k.n k.c, .slice k.A2 k.n2 k.c2, .slice k.A3 k.n3 k.c3] 39)).alloc (.cells #[.slice Am lm cm, .string nm, .bool gs, .slice Ak lk ck] 28)) (.cells #[.slice s.A s.n s.c, .slice s.A2 s.n2 s.c2] 41)
    rw [s2] at h
    exact (Blk.mk h).alloc _
  · have h := heap_alloc_new (((w.alloc (.cells #[.slice k.A k.n k.c, .slice k.A2 k.n2 k.c2, .slice k.A3 k.n3 k.c3] 39)).alloc (.cells #[.slice Am lm cm, .string nm, .bool gs, .slice Ak lk ck] 28)).alloc (.cells #[.slice s.A s.n s.c, .slice s.A2 s.n2 s.c2] 41)) (.cells #[.slice Am lm cm, .string nm, .bool gs, .slice Ak lk ck] 28)
    rw [s3] at h
    exact Blk.mk h
theorem RtAt.six {k : KTree} {s : KSet} {w0 : World} {b4 b7 b9 : Nat} {v0 v1 v2 v3 : Value} {w : World} (h : RtAt k s w0 b4 b7 b9 [v0, v1, v2, v3] w) :
    w.cell? ⟨b9, 0, none⟩ = some v0 ∧ w.cell? ⟨b9, 1, none⟩ = some v1 ∧ w.cell? ⟨b9, 2, none⟩ = some v2 ∧ w.cell? ⟨b9, 3, none⟩ = some v3 ∧ w.cell? ⟨b7, 0, none⟩ = some (.slice s.A s.n s.c) ∧ w.cell? ⟨b7, 1, none⟩ = some (.slice s.A2 s.n2 s.c2) :=
  ⟨h.rb.cell 0, h.rb.cell 1, h.rb.cell 2, h.rb.cell 3, h.sb.cell 0, h.sb.cell 1⟩
/-- A tree in the law's box. -/
structure InBox (k : KTree) (s : KSet) (w0 : World) (b4 b7 b9 : Nat) (v0 v1 v2 v3 : Value) (T : RT) (e : Nat) (w : World) : Prop where
  at_ : RtAt k s w0 b4 b7 b9 [v0, v1, v2, v3] w
  ok : okAt e T w
theorem InBox.below {k : KTree} {s : KSet} {w0 : World} {b4 b7 b9 : Nat} {v0 v1 v2 v3 : Value} {T : RT} {e : Nat} {w w' : World} (h : InBox k s w0 b4 b7 b9 v0 v1 v2 v3 T e w) (hb : Below w.heap.size w w') : InBox k s w0 b4 b7 b9 v0 v1 v2 v3 T e w' := ⟨h.at_.below hb, okAt_below hb e T h.ok⟩
set_option maxHeartbeats 8000000 in
theorem route_tells (k : KTree) (T : RT) (d : Nat) (own : Bool) (s : KSet) (w : World) (hk : k.ok w.heap.size w) (hT : okAt d T w) (hsz : szAt d T) (hc : countF d T ≤ d) (hd : d ≤ 600000) (hS : s.ok w.heap.size w) :
    Calls Try.prog 4 #[k.val, T.val, .bool own, s.val] w fun e w' => e = .returned (.bool true) ∧ Below w.heap.size w w' := by
  obtain ⟨i0, hi0, hz0, hz1, hz2⟩ := info_parts Try.infoRt
  obtain ⟨d, rfl⟩ : ∃ e, d = e + 1 := by
    cases d with
    | zero => exact hT.elim
    | succ e => exact ⟨e, rfl⟩
  obtain ⟨mv, ms, nm, gs, kv, ks⟩ := T
  obtain ⟨hm, hkk, hks⟩ := hT
  simp only [RT.mv, RT.ms, RT.kv, RT.kids] at hm hkk hks
  obtain ⟨Am, cm, rfl, hm1, hm2⟩ := hm.form2
  obtain ⟨Ak, ck, rfl, hk1, hk2⟩ := hkk.form
  have HT0 := Lib.hid (rtAt_start k s w hk hS Am Ak ms.length cm ks.length ck nm gs)
  have HM := Lib.hid hm; have HK := Lib.hid hkk; have HKS := Lib.hid hks; have HSZ := Lib.hid hsz; have HC := Lib.hid hc
  obtain ⟨lm, hlm⟩ : ∃ n, ms.length = n := ⟨_, rfl⟩
  obtain ⟨lk, hlk⟩ : ∃ n, ks.length = n := ⟨_, rfl⟩
  show Calls _ _ #[.agg #[.slice k.A k.n k.c, .slice k.A2 k.n2 k.c2, .slice k.A3 k.n3 k.c3], .agg #[.slice Am ms.length cm, .string nm, .bool gs, .slice Ak ks.length ck], .bool own, .agg #[.slice s.A s.n s.c, .slice s.A2 s.n2 s.c2]] _ _
  rw [hlm, hlk]
  rw [hlm, hlk] at HT0
  rw [hlm] at HM hm1
  rw [hlk] at HK hk1
  have HLM := Lib.hid hlm; have HLK := Lib.hid hlk
  clear hm hkk hks hsz hc hk hS hlm hlk
  go_enter Try.func4, Try.ntmps4
  go_upto_region 2 with fail
  generalize hW4 : ((((w.alloc (.cells #[.slice k.A k.n k.c, .slice k.A2 k.n2 k.c2, .slice k.A3 k.n3 k.c3] 39)).alloc (.cells #[.slice Am lm cm, .string nm, .bool gs, .slice Ak lk ck] 28)).alloc (.cells #[.slice s.A s.n s.c, .slice s.A2 s.n2 s.c2] 41)).alloc (.cells #[.slice Am lm cm, .string nm, .bool gs, .slice Ak lk ck] 28)) = W1 at *
  clear hW4
  obtain ⟨b4, hb4⟩ : ∃ b, w.heap.size = b := ⟨_, rfl⟩
  obtain ⟨b7, hb7⟩ : ∃ b, w.heap.size + 1 + 1 = b := ⟨_, rfl⟩
  obtain ⟨b9, hb9⟩ : ∃ b, w.heap.size + 1 + 1 + 1 = b := ⟨_, rfl⟩
  have HB4 := Lib.hid hb4; have HB7 := Lib.hid hb7; have HB9 := Lib.hid hb9
  have HT := Lib.hid (show RtAt k s w b4 b7 b9 [.slice Am lm cm, .string nm, .bool gs, .slice Ak lk ck] W1 by have h := HT0.out; subst hb4; subst hb7; subst hb9; exact h)
  clear hb4 hb7 hb9 HT0
  rw [show (⟨w.heap.size, 0, none⟩ : Addr) = ⟨b4, 0, none⟩ by rw [HB4.out], show (⟨w.heap.size + 1 + 1, 0, none⟩ : Addr) = ⟨b7, 0, none⟩ by rw [HB7.out], show (⟨w.heap.size + 1 + 1 + 1, 0, none⟩ : Addr) = ⟨b9, 0, none⟩ by rw [HB9.out]]
  obtain ⟨k1, hk1e⟩ : ∃ k1, min lm 7 = k1 := ⟨_, rfl⟩
  obtain ⟨K, hKe⟩ : ∃ K, min lk 6 = K := ⟨_, rfl⟩
  have hk1l : k1 ≤ lm := by omega
  have hKl : K ≤ lk := by omega
  have hK6 : K ≤ 6 := by omega
  go_cut [] (fun wx => ∃ (X : Option Addr) (cx : Nat), RtAt k s w b4 b7 b9 [.slice Am k1 cm, .string nm, .bool gs, .slice X K cx] wx ∧ wx.ownsRow (b9 + 1) 28 4 (.slice X K cx) K (quad ((ks.take K).map RT.cells)))
  case first => --done
    have HON := Lib.hid (kids_one (w := w) (d := d) (ks := ks.take K) (fun q hq => HKS.out q (List.mem_of_mem_take hq)))
    have y1 : (k1 : Int) ≤ cm := by omega
    have y2 : (K : Int) ≤ ck := by omega
    have m1 : min (lm : Int) 7 = (k1 : Int) := by omega
    have m2 : min (lk : Int) 6 = (K : Int) := by omega
    have y3 : (0 : Int) ≤ k1 := by omega
    have y4 : (0 : Int) ≤ K := by omega
    clear hk1e hKe
    refine wp_region_facts_tail 17 (R := fun a b => Below a.heap.size a b) (G := (fun W => RtAt k s w b4 b7 b9 [.slice Am lm cm, .string nm, .bool gs, .slice Ak lk ck] W)) (V := fun i' u' W => match i' with | 0 => u' = .pointer (some ⟨b9, 0, none⟩) | 1 => u' = .slice Am lm cm | 2 => u' = .pointer (some ⟨b9, 0, none⟩) | 3 => u' = .slice Am lm cm | 4 => u' = .int .i64 lm | 5 => u' = .int .i64 k1 | 6 => u' = .slice Am k1 cm | 7 => ∃ b, u' = .slice (some ⟨b, 0, none⟩) 0 0 ∧ Blk W b 28 [] ∧ b9 < b | 8 => u' = .pointer (some ⟨b9, 3, none⟩) | 9 => u' = .slice Ak lk ck | 10 => u' = .pointer (some ⟨b9, 3, none⟩) | 11 => u' = .slice Ak lk ck | 12 => u' = .int .i64 lk | 13 => u' = .int .i64 K | 14 => u' = .slice Ak K ck | 15 => W.ownsRow (b9 + 1) 28 4 u' K (quad ((ks.take K).map RT.cells)) | 16 => u' = .pointer (some ⟨b9, 0, none⟩) | _ => True) (by kernel_rfl) (fun w => Below.refl _ _) (fun a b c h1 h2 => h1.trans (h2.mono h1.size)) (by kernel_rfl) (by kernel_rfl) (by kernel_rfl) (by kernel_rfl) (by decide) (by kernel_rfl) ?hG ⟨?o0, ?o1, ?o2, ?o3, ?o4, ?o5, ?o6, ?o7, ?o8, ?o9, ?o10, ?o11, ?o12, ?o13, ?o14, ?o15, ?o16, trivial⟩ ?hend
    case o0 =>
      intro a w hfr hG hd
      refine ⟨fun hw => ?_, fun hw => absurd hw (by simp [Region.wanted])⟩
      have s9 : a.tmps.getD 9 undef = .pointer (some ⟨b9, 0, none⟩) := hfr.at 9 (by kernel_rfl)
      refine op_yields (.pointer (some ⟨b9, 0, none⟩)) ?_ ?_ ?_
      · simp only [execOp, resolve, List.map_toArray, List.map_cons, List.map_nil, Act.eval, s9]; simp [go_sem, -Array.getD_eq_getD_getElem?, s9]
      · exact Below.refl _ _
      · exact (fun _ _ => rfl)
    case o1 =>
      intro a w hfr hG hd
      obtain ⟨d0, _⟩ := hd
      refine ⟨fun hw => ?_, fun hw => absurd hw (by simp [Region.wanted])⟩
      have s17 : a.tmps.getD 17 undef = .pointer (some ⟨b9, 0, none⟩) := (d0 rfl).now
      have c0 := hG.now.rb.cell 0; simp only [List.getElem?_cons_zero, List.getElem?_cons_succ] at c0
      refine op_yields (.slice Am lm cm) ?_ ?_ ?_
      · simp only [execOp, resolve, List.map_toArray, List.map_cons, List.map_nil, Act.eval, s17]; simp [go_sem, -Array.getD_eq_getD_getElem?, s17, c0]
      · exact Below.refl _ _
      · exact (fun _ _ => rfl)
    case o2 =>
      intro a w hfr hG hd
      refine ⟨fun hw => ?_, fun hw => absurd hw (by simp [Region.wanted])⟩
      have s9 : a.tmps.getD 9 undef = .pointer (some ⟨b9, 0, none⟩) := hfr.at 9 (by kernel_rfl)
      refine op_yields (.pointer (some ⟨b9, 0, none⟩)) ?_ ?_ ?_
      · simp only [execOp, resolve, List.map_toArray, List.map_cons, List.map_nil, Act.eval, s9]; simp [go_sem, -Array.getD_eq_getD_getElem?, s9]
      · exact Below.refl _ _
      · exact (fun _ _ => rfl)
    case o3 =>
      intro a w hfr hG hd
      obtain ⟨d0, _⟩ := hd
      refine ⟨fun hw => ?_, fun hw => absurd hw (by simp [Region.wanted])⟩
      have s19 : a.tmps.getD 19 undef = .pointer (some ⟨b9, 0, none⟩) := (d0 rfl).now
      have c0 := hG.now.rb.cell 0; simp only [List.getElem?_cons_zero, List.getElem?_cons_succ] at c0
      refine op_yields (.slice Am lm cm) ?_ ?_ ?_
      · simp only [execOp, resolve, List.map_toArray, List.map_cons, List.map_nil, Act.eval, s19]; simp [go_sem, -Array.getD_eq_getD_getElem?, s19, c0]
      · exact Below.refl _ _
      · exact (fun _ _ => rfl)
    case o4 =>
      intro a w hfr hG hd
      obtain ⟨d0, _⟩ := hd
      refine ⟨fun hw => ?_, fun hw => absurd hw (by simp [Region.wanted])⟩
      have s20 : a.tmps.getD 20 undef = .slice Am lm cm := (d0 rfl).now
      refine op_yields (.int .i64 lm) ?_ ?_ ?_
      · simp only [execOp, resolve, List.map_toArray, List.map_cons, List.map_nil, Act.eval, s20]; simp [go_sem, -Array.getD_eq_getD_getElem?, s20]
      · exact Below.refl _ _
      · exact (fun _ _ => rfl)
    case o5 =>
      intro a w hfr hG hd
      obtain ⟨d0, _⟩ := hd
      refine ⟨fun hw => ?_, fun hw => absurd hw (by simp [Region.wanted])⟩
      have s21 : a.tmps.getD 21 undef = .int .i64 lm := (d0 rfl).now
      refine op_yields (.int .i64 k1) ?_ ?_ ?_
      · simp only [execOp, resolve, List.map_toArray, List.map_cons, List.map_nil, Act.eval, s21]; simp [go_sem, -Array.getD_eq_getD_getElem?, s21, m1]
      · exact Below.refl _ _
      · exact (fun _ _ => rfl)
    case o6 =>
      intro a w hfr hG hd
      obtain ⟨d0, d1, _⟩ := hd
      refine ⟨fun hw => ?_, fun hw => absurd hw (by simp [Region.wanted])⟩
      have s18 : a.tmps.getD 18 undef = .slice Am lm cm := (d0 rfl).now
      have s22 : a.tmps.getD 22 undef = .int .i64 k1 := (d1 rfl).now
      refine op_yields (.slice Am k1 cm) ?_ ?_ ?_
      · simp only [execOp, resolve, List.map_toArray, List.map_cons, List.map_nil, Act.eval, s18, s22]; simp [go_sem, -Array.getD_eq_getD_getElem?, s18, s22, y1, y3]
      · exact Below.refl _ _
      · exact (fun _ _ => rfl)
    case o7 =>
      intro a w hfr hG hd
      refine ⟨fun hw => ?_, fun hw => absurd hw (by simp [Region.wanted])⟩
      exact op_makes (.slice (some ⟨w.heap.size, 0, none⟩) 0 0) (w' := w.alloc (.cells #[] 28)) (by simp only [execOp, resolve, List.map_toArray, List.map_cons, List.map_nil, Act.eval]; simp [go_sem]) ((Below.refl _ _).alloc (Nat.le_refl _) _) (fun W' hW' => ⟨_, rfl, (Blk.mk (heap_alloc_new _ _) : Blk _ _ _ _).below hW' (by simp), hG.now.rb.lt⟩)
    case o8 =>
      intro a w hfr hG hd
      refine ⟨fun hw => ?_, fun hw => absurd hw (by simp [Region.wanted])⟩
      have s9 : a.tmps.getD 9 undef = .pointer (some ⟨b9, 0, none⟩) := hfr.at 9 (by kernel_rfl)
      refine op_yields (.pointer (some ⟨b9, 3, none⟩)) ?_ ?_ ?_
      · simp only [execOp, resolve, List.map_toArray, List.map_cons, List.map_nil, Act.eval, s9]; simp [go_sem, -Array.getD_eq_getD_getElem?, s9]
      · exact Below.refl _ _
      · exact (fun _ _ => rfl)
    case o9 =>
      intro a w hfr hG hd
      obtain ⟨d0, _⟩ := hd
      refine ⟨fun hw => ?_, fun hw => absurd hw (by simp [Region.wanted])⟩
      have s25 : a.tmps.getD 25 undef = .pointer (some ⟨b9, 3, none⟩) := (d0 rfl).now
      have c3 := hG.now.rb.cell 3; simp only [List.getElem?_cons_zero, List.getElem?_cons_succ] at c3
      refine op_yields (.slice Ak lk ck) ?_ ?_ ?_
      · simp only [execOp, resolve, List.map_toArray, List.map_cons, List.map_nil, Act.eval, s25]; simp [go_sem, -Array.getD_eq_getD_getElem?, s25, c3]
      · exact Below.refl _ _
      · exact (fun _ _ => rfl)
    case o10 =>
      intro a w hfr hG hd
      refine ⟨fun hw => ?_, fun hw => absurd hw (by simp [Region.wanted])⟩
      have s9 : a.tmps.getD 9 undef = .pointer (some ⟨b9, 0, none⟩) := hfr.at 9 (by kernel_rfl)
      refine op_yields (.pointer (some ⟨b9, 3, none⟩)) ?_ ?_ ?_
      · simp only [execOp, resolve, List.map_toArray, List.map_cons, List.map_nil, Act.eval, s9]; simp [go_sem, -Array.getD_eq_getD_getElem?, s9]
      · exact Below.refl _ _
      · exact (fun _ _ => rfl)
    case o11 =>
      intro a w hfr hG hd
      obtain ⟨d0, _⟩ := hd
      refine ⟨fun hw => ?_, fun hw => absurd hw (by simp [Region.wanted])⟩
      have s27 : a.tmps.getD 27 undef = .pointer (some ⟨b9, 3, none⟩) := (d0 rfl).now
      have c3 := hG.now.rb.cell 3; simp only [List.getElem?_cons_zero, List.getElem?_cons_succ] at c3
      refine op_yields (.slice Ak lk ck) ?_ ?_ ?_
      · simp only [execOp, resolve, List.map_toArray, List.map_cons, List.map_nil, Act.eval, s27]; simp [go_sem, -Array.getD_eq_getD_getElem?, s27, c3]
      · exact Below.refl _ _
      · exact (fun _ _ => rfl)
    case o12 =>
      intro a w hfr hG hd
      obtain ⟨d0, _⟩ := hd
      refine ⟨fun hw => ?_, fun hw => absurd hw (by simp [Region.wanted])⟩
      have s28 : a.tmps.getD 28 undef = .slice Ak lk ck := (d0 rfl).now
      refine op_yields (.int .i64 lk) ?_ ?_ ?_
      · simp only [execOp, resolve, List.map_toArray, List.map_cons, List.map_nil, Act.eval, s28]; simp [go_sem, -Array.getD_eq_getD_getElem?, s28]
      · exact Below.refl _ _
      · exact (fun _ _ => rfl)
    case o13 =>
      intro a w hfr hG hd
      obtain ⟨d0, _⟩ := hd
      refine ⟨fun hw => ?_, fun hw => absurd hw (by simp [Region.wanted])⟩
      have s29 : a.tmps.getD 29 undef = .int .i64 lk := (d0 rfl).now
      refine op_yields (.int .i64 K) ?_ ?_ ?_
      · simp only [execOp, resolve, List.map_toArray, List.map_cons, List.map_nil, Act.eval, s29]; simp [go_sem, -Array.getD_eq_getD_getElem?, s29, m2]
      · exact Below.refl _ _
      · exact (fun _ _ => rfl)
    case o14 =>
      intro a w hfr hG hd
      obtain ⟨d0, d1, _⟩ := hd
      refine ⟨fun hw => ?_, fun hw => absurd hw (by simp [Region.wanted])⟩
      have s26 : a.tmps.getD 26 undef = .slice Ak lk ck := (d0 rfl).now
      have s30 : a.tmps.getD 30 undef = .int .i64 K := (d1 rfl).now
      refine op_yields (.slice Ak K ck) ?_ ?_ ?_
      · simp only [execOp, resolve, List.map_toArray, List.map_cons, List.map_nil, Act.eval, s26, s30]; simp [go_sem, -Array.getD_eq_getD_getElem?, s26, s30, y2, y4]
      · exact Below.refl _ _
      · exact (fun _ _ => rfl)
    case o15 =>
      intro a w hfr hG hd
      obtain ⟨d0, d1, _⟩ := hd
      refine ⟨fun hw => ?_, fun hw => absurd hw (by simp [Region.wanted])⟩
      obtain ⟨b, s24, _⟩ := (d0 rfl).now
      have f24 : Hold (fun a b => Below a.heap.size a b) (fun W => Blk W b 28 [] ∧ b9 < b) w := fun w2 h2 => by obtain ⟨_, e1, e2⟩ := d0 rfl w2 h2; have e3 := s24.symm.trans e1; simp only [Value.slice.injEq, Option.some.injEq, Addr.mk.injEq, Value.pointer.injEq, and_true, true_and] at e3; subst e3; exact e2
      have s24 : a.tmps.getD 24 undef = .slice (some ⟨b, 0, none⟩) 0 0 := s24
      have s31 : a.tmps.getD 31 undef = .slice Ak K ck := (d1 rfl).now
      obtain ⟨A', c', w', hrun, hown, hb⟩ := append_fresh (P := Try.prog) w b 26 26 28 i0 _ 4 72 Try.underlying26 hi0 hz0 hz1 hz2 rfl (by decide) f24.now.1 _ Ak K ck (quad ((ks.take K).map RT.cells)) ((HK.out.below hG.now.bel).takeS K hKl) HON.out (by unfold maxLen; omega) (by omega); exact op_makes (.slice A' K c') (op_append rfl s24 s31 hrun) hb (fun W' hW' => own_below (own_mono hown f24.now.2) hW' (Nat.le_refl _))
    case o16 =>
      intro a w hfr hG hd
      obtain ⟨d0, d1, d2, d3, d4, d5, d6, d7, d8, d9, d10, d11, d12, d13, d14, d15, _⟩ := hd
      refine ⟨fun hw => ?_, fun hw => absurd hw (by simp [Region.wanted])⟩
      have s9 : a.tmps.getD 9 undef = .pointer (some ⟨b9, 0, none⟩) := hfr.at 9 (by kernel_rfl)
      refine op_yields (.pointer (some ⟨b9, 0, none⟩)) ?_ ?_ ?_
      · simp only [execOp, resolve, List.map_toArray, List.map_cons, List.map_nil, Act.eval, s9]; simp [go_sem, -Array.getD_eq_getD_getElem?, s9]
      · exact Below.refl _ _
      · exact (fun _ _ => rfl)
    case hG => exact fun w' hb => HT.out.below ((Below.refl _ _).drew.trans (hb.mono (by simp)))
    case hend =>
      intro vs w' hG hv
      have key : vs 6 = .slice Am k1 cm ∧ w'.ownsRow (b9 + 1) 28 4 (vs 15) K (quad ((ks.take K).map RT.cells)) ∧ vs 16 = .pointer (some ⟨b9, 0, none⟩) := by
        obtain ⟨_, _, _, _, _, _, h6, _, _, _, _, _, _, _, _, h15, h16, _⟩ := hv
        exact ⟨h6.now, h15.now, h16.now⟩
      have HT2 := Lib.hid hG.now
      clear hv hG
      obtain ⟨e6, ho15, e16⟩ := key
      have HO := Lib.hid ho15
      clear ho15 HT
      obtain ⟨X, cX, e15, _, _⟩ := own_slice HO.out
      rw [e15] at HO
      have HS3 := Lib.hid ((HT2.out.set9 0 (.slice Am k1 cm)).set9 3 (.slice X K cX))
      have HO3 := Lib.hid (own_far (own_far HO.out (p := ⟨b9, 0, none⟩) (Nat.lt_succ_self b9) (.slice Am k1 cm)) (p := ⟨b9, 3, none⟩) (Nat.lt_succ_self b9) (.slice X K cX))
      have c0 := HT2.out.rb.cell 0
      have c3 := HT2.out.rb.cell 3
      have f0 := HT2.out.rb.frozen 0
      have f3 := HT2.out.rb.frozen 3
      simp only [List.getElem?_cons_zero, List.getElem?_cons_succ] at c0 c3
      change wpList _ _ _ [_, _, _] (putAll vs 0 [_, _, _, _, _, _, _, _, _, _, _, _, _, _, _, _, _] _) _
      simp only [putAll, Act.put, e6, e15, e16]
      clear e6 e15 e16
      go_wp2_with fail
      go_meet
      exact ⟨X, cX, HS3.out, HO3.out⟩
  case rest =>
    obtain ⟨X, cX, hrt, hown⟩ := hcut
    have HT1 := Lib.hid hrt
    have HO1 := Lib.hid hown
    have HLL := Lib.hid (show (ks.take K).length = K by rw [List.length_take, HLK.out]; omega)
    clear hrt hown HT hk1e hKe
    have r3 := HT1.out.rb.cell 3
    simp only [List.getElem?_cons_zero, List.getElem?_cons_succ] at r3
    go_upto_block 0 with fail
    clear r3
    obtain ⟨L, hL⟩ : ∃ L, ks.take K = L := ⟨_, rfl⟩
    have HKL := Lib.hid (show ∀ q ∈ L, okAt d q w from fun q hq => by rw [← hL] at hq; exact HKS.out q (List.mem_of_mem_take hq))
    rw [hL] at HO1 HLL
    have HLE := Lib.hid hL
    clear hL
    go_cut [] from 38 to 61 (fun wx => ∃ (X : Option Addr) (cX : Nat), RtAt k s w b4 b7 b9 [.slice Am k1 cm, .string nm, .bool gs, .slice X K cX] wx ∧ wx.ownsRow (b9 + 1) 28 4 (.slice X K cX) K (quad ((L.map cutKd).map RT.cells)))
    case first => --done
      go_wp2_with fail
      go_loopg [38] K (fun g x38 wr => ∃ i : Nat, i + g = K ∧ x38 = .int .i64 i ∧ RtAt k s w b4 b7 b9 [.slice Am k1 cm, .string nm, .bool gs, .slice X K cX] wr ∧ wr.ownsRow (b9 + 1) 28 4 (.slice X K cX) K (quad ((cutU i L).map RT.cells)))
      case atStart => exact ⟨0, by omega, rfl, HT1.out, by rw [cutU_zero]; exact HO1.out⟩
      case round =>
        obtain ⟨i, hig, rfl, hrt, hown⟩ := hrel
        have HT := Lib.hid hrt; have HO := Lib.hid hown
        clear hrt hown HT1 HO1
        cases gk with
        | zero =>
          have HZ := Lib.hid (show wr.ownsRow (b9 + 1) 28 4 (.slice X K cX) K (quad ((L.map cutKd).map RT.cells)) by have h := HO.out; rwa [show i = L.length by rw [HLL.out]; omega, cutU_all] at h)
          go_wp2_with fail
          go_meet
          exact ⟨X, cX, HT.out, HZ.out⟩
        | succ g =>
          have hiK : i < K := by omega
          have hiL : i < L.length := by rw [HLL.out]; omega
          obtain ⟨gx, cx, hX, hbg, _, hfz⟩ := own_form4 HO.out (by omega) (by omega)
          injection hX with hX _ hcX
          subst hX; subst hcX
          have HGL := Lib.hid hbg
          obtain ⟨A7, c7, A8, c8, hv7, hv8⟩ := okAt_form (HKL.out L[i] (List.getElem_mem hiL))
          have hkk8 : HasK w (.slice A8 L[i].kids.length c8) L[i].kids := by
            rw [← hv8]
            cases d with
            | zero => exact (HKL.out L[i] (List.getElem_mem hiL)).elim
            | succ d => exact (HKL.out L[i] (List.getElem_mem hiL)).2.1
          obtain ⟨_, _, hf8, hq1, hq2⟩ := hkk8.form
          injection hf8 with hfa _ hfc; subst hfa; subst hfc
          have HEL : Hid (∀ W : World, W.ownsRow (b9 + 1) 28 4 (.slice (some ⟨gx, 0, none⟩) K cX) K (quad ((cutU i L).map RT.cells)) → W.cell? ⟨gx, i * 4 + 3, none⟩ = some (.slice A8 L[i].kids.length c8)) := Lib.hid (fun W hW => by
            obtain ⟨ad, hl, hA, _, _, _, e3⟩ := (Sees.of_own hW).quad hiK
            injection hA with hA
            subst hA
            rw [List.getElem_map, cutU_get hiL] at e3
            rw [add_spelt _ _ _ (by omega)] at e3
            have ea : (⟨gx, 0, none⟩ : Addr).add (i * 4 + 3) = ⟨gx, i * 4 + 3, none⟩ := by simp [Addr.add]
            rw [ea] at e3
            rw [e3]
            show some L[i].kv = _
            rw [hv8])
          have HNX : Hid (quad ((cutU (i + 1) L).map RT.cells) = (quad ((cutU i L).map RT.cells)).set (i * 4 + 3) (.slice A8 (min L[i].kids.length 3) c8)) := Lib.hid (by
            rw [quad_set (by rw [List.length_map, cutU_len]; exact hiL), cutU_next hiL, List.map_set, List.getElem_map, cutU_get hiL, cutKd_cells hv8]
            rfl)
          clear hv7 hv8 hkk8
          generalize L[i].kids.length = nq at *
          obtain ⟨q3, hq3⟩ : ∃ q, min nq 3 = q := ⟨_, rfl⟩
          rw [hq3] at HNX
          have hq3n : q3 ≤ nq := by omega
          have m3 : min (nq : Int) 3 = (q3 : Int) := by omega
          have y1 : (q3 : Int) ≤ c8 := by omega
          have y2 : (0 : Int) ≤ q3 := by omega
          have y3 : (0 : Int) ≤ i := by omega
          have y4 : (i : Int) < K := by omega
          have HLX := Lib.hid (show i * 4 + 3 < (quad ((cutU i L).map RT.cells)).length by rw [quad_length, List.length_map, cutU_len]; omega)
          clear hq3
          go_upto_region 6 with fail
          refine wp_region_facts_tail 20 (R := fun a b => Below a.heap.size a b) (G := (fun W => RtAt k s w b4 b7 b9 [.slice Am k1 cm, .string nm, .bool gs, .slice (some ⟨gx, 0, none⟩) K cX] W ∧ W.ownsRow (b9 + 1) 28 4 (.slice (some ⟨gx, 0, none⟩) K cX) K (quad ((cutU i L).map RT.cells)))) (V := fun i' u' W => match i' with | 0 => u' = .pointer (some ⟨b9, 3, none⟩) | 1 => u' = .slice (some ⟨gx, 0, none⟩) K cX | 2 => u' = .int .i64 i | 3 => u' = .pointer (some ⟨b9, 3, none⟩) | 4 => u' = .slice (some ⟨gx, 0, none⟩) K cX | 5 => u' = .int .i64 i | 6 => u' = .pointer (some ⟨gx, i * 4, none⟩) | 7 => u' = .pointer (some ⟨gx, i * 4 + 3, none⟩) | 8 => u' = .slice A8 nq c8 | 9 => u' = .pointer (some ⟨b9, 3, none⟩) | 10 => u' = .slice (some ⟨gx, 0, none⟩) K cX | 11 => u' = .int .i64 i | 12 => u' = .pointer (some ⟨gx, i * 4, none⟩) | 13 => u' = .pointer (some ⟨gx, i * 4 + 3, none⟩) | 14 => u' = .slice A8 nq c8 | 15 => u' = .int .i64 nq | 16 => u' = .int .i64 q3 | 17 => u' = .slice A8 q3 c8 | 18 => u' = .pointer (some ⟨gx, i * 4, none⟩) | 19 => u' = .pointer (some ⟨gx, i * 4 + 3, none⟩) | _ => True) (by kernel_rfl) (fun w => Below.refl _ _) (fun a b c h1 h2 => h1.trans (h2.mono h1.size)) (by kernel_rfl) (by kernel_rfl) (by kernel_rfl) (by kernel_rfl) (by decide) (by kernel_rfl) ?hG ⟨?o0, ?o1, ?o2, ?o3, ?o4, ?o5, ?o6, ?o7, ?o8, ?o9, ?o10, ?o11, ?o12, ?o13, ?o14, ?o15, ?o16, ?o17, ?o18, ?o19, trivial⟩ ?hend
          case o0 =>
            intro a w hfr hG hd
            refine ⟨fun hw => ?_, fun hw => absurd hw (by simp [Region.wanted])⟩
            have s9 : a.tmps.getD 9 undef = .pointer (some ⟨b9, 0, none⟩) := hfr.at 9 (by kernel_rfl)
            refine op_yields (.pointer (some ⟨b9, 3, none⟩)) ?_ ?_ ?_
            · simp only [execOp, resolve, List.map_toArray, List.map_cons, List.map_nil, Act.eval, s9]; simp [go_sem, -Array.getD_eq_getD_getElem?, s9]
            · exact Below.refl _ _
            · exact (fun _ _ => rfl)
          case o1 =>
            intro a w hfr hG hd
            obtain ⟨d0, _⟩ := hd
            refine ⟨fun hw => ?_, fun hw => absurd hw (by simp [Region.wanted])⟩
            have s41 : a.tmps.getD 41 undef = .pointer (some ⟨b9, 3, none⟩) := (d0 rfl).now
            have c3 := hG.now.1.rb.cell 3; simp only [List.getElem?_cons_zero, List.getElem?_cons_succ] at c3
            refine op_yields (.slice (some ⟨gx, 0, none⟩) K cX) ?_ ?_ ?_
            · simp only [execOp, resolve, List.map_toArray, List.map_cons, List.map_nil, Act.eval, s41]; simp [go_sem, -Array.getD_eq_getD_getElem?, s41, c3]
            · exact Below.refl _ _
            · exact (fun _ _ => rfl)
          case o2 =>
            intro a w hfr hG hd
            refine ⟨fun hw => ?_, fun hw => absurd hw (by simp [Region.wanted])⟩
            have s10 : a.tmps.getD 10 undef = .int .i64 i := hfr.at 10 (by kernel_rfl)
            refine op_yields (.int .i64 i) ?_ ?_ ?_
            · simp only [execOp, resolve, List.map_toArray, List.map_cons, List.map_nil, Act.eval, s10]; simp [go_sem, -Array.getD_eq_getD_getElem?, s10]
            · exact Below.refl _ _
            · exact (fun _ _ => rfl)
          case o3 =>
            intro a w hfr hG hd
            refine ⟨fun hw => ?_, fun hw => absurd hw (by simp [Region.wanted])⟩
            have s9 : a.tmps.getD 9 undef = .pointer (some ⟨b9, 0, none⟩) := hfr.at 9 (by kernel_rfl)
            refine op_yields (.pointer (some ⟨b9, 3, none⟩)) ?_ ?_ ?_
            · simp only [execOp, resolve, List.map_toArray, List.map_cons, List.map_nil, Act.eval, s9]; simp [go_sem, -Array.getD_eq_getD_getElem?, s9]
            · exact Below.refl _ _
            · exact (fun _ _ => rfl)
          case o4 =>
            intro a w hfr hG hd
            obtain ⟨d0, _⟩ := hd
            refine ⟨fun hw => ?_, fun hw => absurd hw (by simp [Region.wanted])⟩
            have s44 : a.tmps.getD 44 undef = .pointer (some ⟨b9, 3, none⟩) := (d0 rfl).now
            have c3 := hG.now.1.rb.cell 3; simp only [List.getElem?_cons_zero, List.getElem?_cons_succ] at c3
            refine op_yields (.slice (some ⟨gx, 0, none⟩) K cX) ?_ ?_ ?_
            · simp only [execOp, resolve, List.map_toArray, List.map_cons, List.map_nil, Act.eval, s44]; simp [go_sem, -Array.getD_eq_getD_getElem?, s44, c3]
            · exact Below.refl _ _
            · exact (fun _ _ => rfl)
          case o5 =>
            intro a w hfr hG hd
            refine ⟨fun hw => ?_, fun hw => absurd hw (by simp [Region.wanted])⟩
            have s10 : a.tmps.getD 10 undef = .int .i64 i := hfr.at 10 (by kernel_rfl)
            refine op_yields (.int .i64 i) ?_ ?_ ?_
            · simp only [execOp, resolve, List.map_toArray, List.map_cons, List.map_nil, Act.eval, s10]; simp [go_sem, -Array.getD_eq_getD_getElem?, s10]
            · exact Below.refl _ _
            · exact (fun _ _ => rfl)
          case o6 =>
            intro a w hfr hG hd
            obtain ⟨d0, d1, _⟩ := hd
            refine ⟨fun hw => ?_, fun hw => absurd hw (by simp [Region.wanted])⟩
            have s45 : a.tmps.getD 45 undef = .slice (some ⟨gx, 0, none⟩) K cX := (d0 rfl).now
            have s46 : a.tmps.getD 46 undef = .int .i64 i := (d1 rfl).now
            refine op_yields (.pointer (some ⟨gx, i * 4, none⟩)) ?_ ?_ ?_
            · simp only [execOp, resolve, List.map_toArray, List.map_cons, List.map_nil, Act.eval, s45, s46]; simp [go_sem, -Array.getD_eq_getD_getElem?, s45, s46, y3, y4, Addr.add]; exact fun h => h.symm
            · exact Below.refl _ _
            · exact (fun _ _ => rfl)
          case o7 =>
            intro a w hfr hG hd
            obtain ⟨d0, _⟩ := hd
            refine ⟨fun hw => ?_, fun hw => absurd hw (by simp [Region.wanted])⟩
            have s47 : a.tmps.getD 47 undef = .pointer (some ⟨gx, i * 4, none⟩) := (d0 rfl).now
            refine op_yields (.pointer (some ⟨gx, i * 4 + 3, none⟩)) ?_ ?_ ?_
            · simp only [execOp, resolve, List.map_toArray, List.map_cons, List.map_nil, Act.eval, s47]; simp [go_sem, -Array.getD_eq_getD_getElem?, s47]
            · exact Below.refl _ _
            · exact (fun _ _ => rfl)
          case o8 =>
            intro a w hfr hG hd
            obtain ⟨d0, _⟩ := hd
            refine ⟨fun hw => ?_, fun hw => absurd hw (by simp [Region.wanted])⟩
            have s48 : a.tmps.getD 48 undef = .pointer (some ⟨gx, i * 4 + 3, none⟩) := (d0 rfl).now
            have e3 := HEL.out w hG.now.2
            refine op_yields (.slice A8 nq c8) ?_ ?_ ?_
            · simp only [execOp, resolve, List.map_toArray, List.map_cons, List.map_nil, Act.eval, s48]; simp [go_sem, -Array.getD_eq_getD_getElem?, s48, e3, e3]
            · exact Below.refl _ _
            · exact (fun _ _ => rfl)
          case o9 =>
            intro a w hfr hG hd
            refine ⟨fun hw => ?_, fun hw => absurd hw (by simp [Region.wanted])⟩
            have s9 : a.tmps.getD 9 undef = .pointer (some ⟨b9, 0, none⟩) := hfr.at 9 (by kernel_rfl)
            refine op_yields (.pointer (some ⟨b9, 3, none⟩)) ?_ ?_ ?_
            · simp only [execOp, resolve, List.map_toArray, List.map_cons, List.map_nil, Act.eval, s9]; simp [go_sem, -Array.getD_eq_getD_getElem?, s9]
            · exact Below.refl _ _
            · exact (fun _ _ => rfl)
          case o10 =>
            intro a w hfr hG hd
            obtain ⟨d0, _⟩ := hd
            refine ⟨fun hw => ?_, fun hw => absurd hw (by simp [Region.wanted])⟩
            have s50 : a.tmps.getD 50 undef = .pointer (some ⟨b9, 3, none⟩) := (d0 rfl).now
            have c3 := hG.now.1.rb.cell 3; simp only [List.getElem?_cons_zero, List.getElem?_cons_succ] at c3
            refine op_yields (.slice (some ⟨gx, 0, none⟩) K cX) ?_ ?_ ?_
            · simp only [execOp, resolve, List.map_toArray, List.map_cons, List.map_nil, Act.eval, s50]; simp [go_sem, -Array.getD_eq_getD_getElem?, s50, c3]
            · exact Below.refl _ _
            · exact (fun _ _ => rfl)
          case o11 =>
            intro a w hfr hG hd
            refine ⟨fun hw => ?_, fun hw => absurd hw (by simp [Region.wanted])⟩
            have s10 : a.tmps.getD 10 undef = .int .i64 i := hfr.at 10 (by kernel_rfl)
            refine op_yields (.int .i64 i) ?_ ?_ ?_
            · simp only [execOp, resolve, List.map_toArray, List.map_cons, List.map_nil, Act.eval, s10]; simp [go_sem, -Array.getD_eq_getD_getElem?, s10]
            · exact Below.refl _ _
            · exact (fun _ _ => rfl)
          case o12 =>
            intro a w hfr hG hd
            obtain ⟨d0, d1, _⟩ := hd
            refine ⟨fun hw => ?_, fun hw => absurd hw (by simp [Region.wanted])⟩
            have s51 : a.tmps.getD 51 undef = .slice (some ⟨gx, 0, none⟩) K cX := (d0 rfl).now
            have s52 : a.tmps.getD 52 undef = .int .i64 i := (d1 rfl).now
            refine op_yields (.pointer (some ⟨gx, i * 4, none⟩)) ?_ ?_ ?_
            · simp only [execOp, resolve, List.map_toArray, List.map_cons, List.map_nil, Act.eval, s51, s52]; simp [go_sem, -Array.getD_eq_getD_getElem?, s51, s52, y3, y4, Addr.add]; exact fun h => h.symm
            · exact Below.refl _ _
            · exact (fun _ _ => rfl)
          case o13 =>
            intro a w hfr hG hd
            obtain ⟨d0, _⟩ := hd
            refine ⟨fun hw => ?_, fun hw => absurd hw (by simp [Region.wanted])⟩
            have s53 : a.tmps.getD 53 undef = .pointer (some ⟨gx, i * 4, none⟩) := (d0 rfl).now
            refine op_yields (.pointer (some ⟨gx, i * 4 + 3, none⟩)) ?_ ?_ ?_
            · simp only [execOp, resolve, List.map_toArray, List.map_cons, List.map_nil, Act.eval, s53]; simp [go_sem, -Array.getD_eq_getD_getElem?, s53]
            · exact Below.refl _ _
            · exact (fun _ _ => rfl)
          case o14 =>
            intro a w hfr hG hd
            obtain ⟨d0, _⟩ := hd
            refine ⟨fun hw => ?_, fun hw => absurd hw (by simp [Region.wanted])⟩
            have s54 : a.tmps.getD 54 undef = .pointer (some ⟨gx, i * 4 + 3, none⟩) := (d0 rfl).now
            have e3 := HEL.out w hG.now.2
            refine op_yields (.slice A8 nq c8) ?_ ?_ ?_
            · simp only [execOp, resolve, List.map_toArray, List.map_cons, List.map_nil, Act.eval, s54]; simp [go_sem, -Array.getD_eq_getD_getElem?, s54, e3, e3]
            · exact Below.refl _ _
            · exact (fun _ _ => rfl)
          case o15 =>
            intro a w hfr hG hd
            obtain ⟨d0, _⟩ := hd
            refine ⟨fun hw => ?_, fun hw => absurd hw (by simp [Region.wanted])⟩
            have s55 : a.tmps.getD 55 undef = .slice A8 nq c8 := (d0 rfl).now
            refine op_yields (.int .i64 nq) ?_ ?_ ?_
            · simp only [execOp, resolve, List.map_toArray, List.map_cons, List.map_nil, Act.eval, s55]; simp [go_sem, -Array.getD_eq_getD_getElem?, s55]
            · exact Below.refl _ _
            · exact (fun _ _ => rfl)
          case o16 =>
            intro a w hfr hG hd
            obtain ⟨d0, _⟩ := hd
            refine ⟨fun hw => ?_, fun hw => absurd hw (by simp [Region.wanted])⟩
            have s56 : a.tmps.getD 56 undef = .int .i64 nq := (d0 rfl).now
            refine op_yields (.int .i64 q3) ?_ ?_ ?_
            · simp only [execOp, resolve, List.map_toArray, List.map_cons, List.map_nil, Act.eval, s56]; simp [go_sem, -Array.getD_eq_getD_getElem?, s56, m3]
            · exact Below.refl _ _
            · exact (fun _ _ => rfl)
          case o17 =>
            intro a w hfr hG hd
            obtain ⟨d0, d1, _⟩ := hd
            refine ⟨fun hw => ?_, fun hw => absurd hw (by simp [Region.wanted])⟩
            have s49 : a.tmps.getD 49 undef = .slice A8 nq c8 := (d0 rfl).now
            have s57 : a.tmps.getD 57 undef = .int .i64 q3 := (d1 rfl).now
            refine op_yields (.slice A8 q3 c8) ?_ ?_ ?_
            · simp only [execOp, resolve, List.map_toArray, List.map_cons, List.map_nil, Act.eval, s49, s57]; simp [go_sem, -Array.getD_eq_getD_getElem?, s49, s57, y1, y2]
            · exact Below.refl _ _
            · exact (fun _ _ => rfl)
          case o18 =>
            intro a w hfr hG hd
            obtain ⟨d0, d1, d2, d3, d4, d5, d6, d7, d8, d9, d10, d11, d12, d13, d14, d15, d16, d17, d18, d19, _⟩ := hd
            refine ⟨fun hw => ?_, fun hw => absurd hw (by simp [Region.wanted])⟩
            have s42 : a.tmps.getD 42 undef = .slice (some ⟨gx, 0, none⟩) K cX := (d0 rfl).now
            have s43 : a.tmps.getD 43 undef = .int .i64 i := (d1 rfl).now
            refine op_yields (.pointer (some ⟨gx, i * 4, none⟩)) ?_ ?_ ?_
            · simp only [execOp, resolve, List.map_toArray, List.map_cons, List.map_nil, Act.eval, s42, s43]; simp [go_sem, -Array.getD_eq_getD_getElem?, s42, s43, y3, y4, Addr.add]; exact fun h => h.symm
            · exact Below.refl _ _
            · exact (fun _ _ => rfl)
          case o19 =>
            intro a w hfr hG hd
            obtain ⟨d0, d1, d2, d3, d4, d5, d6, d7, d8, d9, d10, d11, d12, d13, d14, d15, d16, d17, d18, _⟩ := hd
            refine ⟨fun hw => ?_, fun hw => absurd hw (by simp [Region.wanted])⟩
            have s59 : a.tmps.getD 59 undef = .pointer (some ⟨gx, i * 4, none⟩) := (d0 rfl).now
            refine op_yields (.pointer (some ⟨gx, i * 4 + 3, none⟩)) ?_ ?_ ?_
            · simp only [execOp, resolve, List.map_toArray, List.map_cons, List.map_nil, Act.eval, s59]; simp [go_sem, -Array.getD_eq_getD_getElem?, s59]
            · exact Below.refl _ _
            · exact (fun _ _ => rfl)
          case hG => exact fun w' hb => ⟨HT.out.below ((Below.refl _ _).drew.trans (hb.mono (by simp))), own_below HO.out ((Below.refl _ _).drew.trans (hb.mono (by simp))) (Nat.le_refl _)⟩
          case hend =>
            intro vs w' hG hv
            have key : vs 17 = .slice A8 q3 c8 ∧ vs 19 = .pointer (some ⟨gx, i * 4 + 3, none⟩) := by
              obtain ⟨_, _, _, _, _, _, _, _, _, _, _, _, _, _, _, _, _, h17, _, h19, _⟩ := hv
              exact ⟨h17.now, h19.now⟩
            obtain ⟨ht6, ho6⟩ := hG.now
            have e3 := HEL.out w' ho6
            obtain ⟨hset, hgw, hfz2⟩ : (w'.setCell ⟨gx, i * 4 + 3, none⟩ (.slice A8 q3 c8)).ownsRow (b9 + 1) 28 4 (.slice (some ⟨gx, 0, none⟩) K cX) K ((quad ((cutU i L).map RT.cells)).set (i * 4 + 3) (.slice A8 q3 c8)) ∧ w'.grownBy (w'.setCell ⟨gx, i * 4 + 3, none⟩ (.slice A8 q3 c8)) (some gx) ∧ w'.frozen? ⟨gx, i * 4 + 3, none⟩ = false := by
              obtain ⟨gx2, _, hX2, _, _, hfz3⟩ := own_form4 ho6 (by omega) (by omega)
              injection hX2 with hX2 _ _
              injection hX2 with hX2; injection hX2 with hX2
              exact ⟨own_set4 ho6 HLX.out _, only_setCell (World.grownBy.refl w' (some gx)) (p := ⟨gx, i * 4 + 3, none⟩) (.inl rfl) _, by rw [hX2]; exact hfz3 _⟩
            have HTN := Lib.hid (ht6.grown hgw (fun g e => by injection e with e; subst e; exact HGL.out))
            have HON := Lib.hid (show (w'.setCell ⟨gx, i * 4 + 3, none⟩ (.slice A8 q3 c8)).ownsRow (b9 + 1) 28 4 (.slice (some ⟨gx, 0, none⟩) K cX) K (quad ((cutU (i + 1) L).map RT.cells)) by rw [HNX.out]; exact hset)
            clear hv hG ht6 ho6 hset hgw HT HO HEL HNX
            obtain ⟨e17, e19⟩ := key
            change wpList _ _ _ [_] (putAll vs 0 [_, _, _, _, _, _, _, _, _, _, _, _, _, _, _, _, _, _, _, _] _) _
            simp only [putAll, Act.put, e17, e19]
            clear e17 e19
            go_wp2_with fail
            go_roundg g
            case measure => omega
            case rel => exact ⟨i + 1, by omega, by go_num, HTN.out, HON.out⟩
    case rest =>
      obtain ⟨X, cX, hrt, hown⟩ := hcut
      have hok1 : okAt (d + 1) (cutTr (.slice Am k1 cm) (.slice X K cX) k1 K (.mk (.slice Am lm cm) ms nm gs (.slice Ak lk ck) ks)) wc := by
        refine cutTr_ok (fun q hq => okAt_below hrt.bel d q (HKS.out q hq)) ((HM.out.below hrt.bel).take k1 hk1l) ?_
        show HasK wc (.slice X K cX) ((ks.take K).map cutKd)
        rw [HLE.out]
        obtain ⟨X', cX', j1, j2, j3⟩ := own_slice hown
        injection j1 with j1 _ j4; subst j1; subst j4
        have hl : (L.map cutKd).length = K := by rw [List.length_map, HLL.out]
        exact ⟨X, cX, by rw [hl], by rw [hl]; exact Sees.of_own hown, by rw [hl]; exact j2, j3⟩
      have HIN := Lib.hid (show InBox k s w b4 b7 b9 (.slice Am k1 cm) (.string nm) (.bool gs) (.slice X K cX) (cutTr (.slice Am k1 cm) (.slice X K cX) k1 K (.mk (.slice Am lm cm) ms nm gs (.slice Ak lk ck) ks)) (d + 1) wc from ⟨hrt, hok1⟩)
      have HSZ1 := Lib.hid (cutTr_sz (mv := .slice Am k1 cm) (kv := .slice X K cX) (m := k1) (K := K) (d := d) (T := .mk (.slice Am lm cm) ms nm gs (.slice Ak lk ck) ks) (by rw [← HLM.out, ← HLK.out]; exact HSZ.out))
      have HC1 := Lib.hid (show countF (d + 1) (cutTr (.slice Am k1 cm) (.slice X K cX) k1 K (.mk (.slice Am lm cm) ms nm gs (.slice Ak lk ck) ks)) ≤ 600000 from by
        have h1 := cutTr_count (mv := .slice Am k1 cm) (kv := .slice X K cX) (m := k1) (K := K) (d := d) (T := .mk (.slice Am lm cm) ms nm gs (.slice Ak lk ck) ks)
        have h2 := HC.out
        rw [HLM.out, HLK.out] at h2
        omega)
      have HV1 : Hid ((cutTr (.slice Am k1 cm) (.slice X K cX) k1 K (.mk (.slice Am lm cm) ms nm gs (.slice Ak lk ck) ks)).val = .agg #[.slice Am k1 cm, .string nm, .bool gs, .slice X K cX]) := Lib.hid rfl
      have HM1 := Lib.hid (show (cutTr (.slice Am k1 cm) (.slice X K cX) k1 K (.mk (.slice Am lm cm) ms nm gs (.slice Ak lk ck) ks)).ms.length = k1 from by
        show (ms.take k1).length = k1
        rw [List.length_take, HLM.out]; omega)
      clear hrt hown hok1 HT1 HO1 HKL HLE HLL
      generalize cutTr (.slice Am k1 cm) (.slice X K cX) k1 K (.mk (.slice Am lm cm) ms nm gs (.slice Ak lk ck) ks) = T1 at *
      go_upto_if 62 with fail
      go_cut [] (fun wx => ∃ (T2 : RT) (e : Nat) (A5 : Option Addr) (m5 c5 : Nat) (nm2 : ByteArray) (g2 : Bool) (A6 : Option Addr) (m6 c6 : Nat), InBox k s w b4 b7 b9 (.slice A5 m5 c5) (.string nm2) (.bool g2) (.slice A6 m6 c6) T2 e wx ∧ T2.val = .agg #[.slice A5 m5 c5, .string nm2, .bool g2, .slice A6 m6 c6] ∧ T2.ms.length = m5 ∧ szAt e T2 ∧ countF e T2 ≤ 600000 ∧ e ≤ 600000)
      case first => --done
        cases own with
        | false =>
          go_wp2_with fail
          go_meet
          exact ⟨T1, d + 1, Am, k1, cm, nm, gs, X, K, cX, HIN.out, HV1.out, HM1.out, HSZ1.out, HC1.out, hd⟩
        | true =>
          have hrt := HIN.out.at_
          have HT := Lib.hid hrt
          have HTF := Lib.hid (tree_far k wc (hrt.kok.more hrt.bel.size))
          unfold KTree.val at HTF
          have k0 := hrt.kb.cell 0
          have k1' := hrt.kb.cell 1
          have k2 := hrt.kb.cell 2
          simp only [List.getElem?_cons_zero, List.getElem?_cons_succ] at k0 k1' k2
          have hb9l := hrt.rb.lt
          clear hrt HIN HSZ1 HC1 HV1 HM1
          go_wp2_with fail
          (with_reducible refine HTF.out.mono ?_); rintro e wz ⟨r, he, hfs, hrt, hct, hsz, hbz⟩
          obtain ⟨A7, c7, A8, c8, hv7, hv8⟩ := okAt_form hfs.now
          have hval : r.val = .agg #[.slice A7 r.ms.length c7, .string r.nm, .bool r.goes, .slice A8 r.kids.length c8] := by unfold RT.val; rw [hv7, hv8]
          rw [hval] at he
          subst he
          have HVL := Lib.hid hval
          have HTZ := Lib.hid (HT.out.below hbz)
          have HFS := Lib.hid hfs
          have HCS := Lib.hid (And.intro hct hsz)
          clear hfs hrt hct hsz hbz hv7 hv8 hval HT HTF k0 k1' k2
          obtain ⟨m7, hm7⟩ : ∃ m, r.ms.length = m := ⟨_, rfl⟩
          have HM7 := Lib.hid hm7
          rw [hm7] at HVL
          rw [hm7]
          clear hm7
          generalize r.kids.length = m8 at *
          generalize r.nm = qn at *
          generalize r.goes = qg at *
          obtain ⟨q0, q1, q2, q3, _, _⟩ := HTZ.out.six
          have f0 := HTZ.out.rb.frozen 0
          have f1 := HTZ.out.rb.frozen 1
          have f2 := HTZ.out.rb.frozen 2
          have f3 := HTZ.out.rb.frozen 3
          have HRS := Lib.hid ((((HTZ.out.set9 0 (.slice A7 m7 c7)).set9 1 (.string qn)).set9 2 (.bool qg)).set9 3 (.slice A8 m8 c8))
          have HOK := Lib.hid (show okAt 3 r ((((wz.setCell ⟨b9, 0, none⟩ (.slice A7 m7 c7)).setCell ⟨b9, 1, none⟩ (.string qn)).setCell ⟨b9, 2, none⟩ (.bool qg)).setCell ⟨b9, 3, none⟩ (.slice A8 m8 c8)) from HFS.out _ (by simp [World.setCell]) (fun b hb hn => by
            have hne : b ≠ b9 := fun e => hn (by omega)
            rw [Below.heap_setCell _ ⟨b9, 3, none⟩ _ b hne, Below.heap_setCell _ ⟨b9, 2, none⟩ _ b hne, Below.heap_setCell _ ⟨b9, 1, none⟩ _ b hne, Below.heap_setCell _ ⟨b9, 0, none⟩ _ b hne]))
          clear HFS HTZ
          go_wp2_with fail
          go_meet
          exact ⟨r, 3, A7, m7, c7, qn, qg, A8, m8, c8, ⟨HRS.out, HOK.out⟩, HVL.out, HM7.out, HCS.out.2, by have := HCS.out.1; omega, by omega⟩
      case rest =>
        obtain ⟨T2, e, A5, m5, c5, nm2, g2, A6, m6, c6, hin, hval, hm5, hsz, hct, he⟩ := hcut
        have HIB := Lib.hid hin; have HV := Lib.hid hval; have HM5 := Lib.hid hm5; have HSZ2 := Lib.hid hsz
        clear hin hval hm5 hsz HIN HSZ1 HC1 HV1 HM1
        have href := fun W h => refTree_any e T2 W h (by omega) HSZ2.out (by omega)
        have hcnt := fun W h => count_any e T2 W h (by omega)
        have hrgt := fun W h => rightT_any e T2 W h (by omega)
        have hto := fun v W h hv => To_any v (setF s) e T2 W h hv (by omega)
        have hrto := fun v W h hv => refTo_any v (setF s) e T2 W h hv (by omega) HSZ2.out
        rw [HV.out] at href hcnt hrgt hto hrto
        have HREF := Lib.hid href; have HCNT := Lib.hid hcnt; have HRGT := Lib.hid hrgt; have HTO := Lib.hid hto; have HRTO := Lib.hid hrto
        have HRE := Lib.hid (rightT_ref e T2)
        have HME := Lib.hid (show T2.ms.isEmpty = decide (m5 = 0) by
          rw [← HM5.out]
          cases T2.ms with
          | nil => rfl
          | cons x l => simp)
        clear href hcnt hrgt hto hrto
        obtain ⟨cn, hcn⟩ : ∃ n, countF e T2 = n := ⟨_, rfl⟩
        obtain ⟨dp, hdp⟩ : ∃ n, depR e T2 = n := ⟨_, rfl⟩
        obtain ⟨ob, hob⟩ : ∃ n, okR e T2 = n := ⟨_, rfl⟩
        obtain ⟨rt, hrt⟩ : ∃ n, rightT e T2 = n := ⟨_, rfl⟩
        rw [hcn, hdp, hob] at HREF
        rw [hcn] at HCNT
        rw [hrt] at HRGT HRE HTO
        rw [hcn, hdp, hob, HME.out] at HRE
        have hcn2 : cn ≤ 600000 := by omega
        clear hcn hdp hob hrt
        obtain ⟨q0, q1, q2, q3, _, _⟩ := HIB.out.at_.six
        go_wp2_with fail
        (with_reducible refine (HREF.out _ HIB.out.ok).mono ?_); rintro e' wz ⟨rfl, hbz⟩
        have HIZ := Lib.hid (HIB.out.below hbz)
        clear hbz HIB q0 q1 q2 q3
        obtain ⟨q0, q1, q2, q3, _, _⟩ := HIZ.out.at_.six
        go_upto_region 11 with fail
        go_cut [14] (fun x14 wx => x14 = .bool rt ∧ InBox k s w b4 b7 b9 (.slice A5 m5 c5) (.string nm2) (.bool g2) (.slice A6 m6 c6) T2 e wx)
        case first => --done
          cases ob with
          | false =>
            have hre : rt = false := by rw [HRE.out]; simp
            go_wp2_with fail
            go_meet
            exact ⟨by rw [hre], HIZ.out⟩
          | true =>
            by_cases h1 : cn ≤ 16
            · by_cases h2 : dp ≤ 8
              · have h1i : (cn : Int) ≤ 16 := by omega
                have h2i : (dp : Int) ≤ 8 := by omega
                by_cases h3 : m5 = 0
                · have hre : rt = true := by rw [HRE.out, decide_eq_true h1, decide_eq_true h2, decide_eq_true h3]; rfl
                  have h3i : ((m5 : Int) == 0) = true := by rw [h3]; rfl
                  clear h3
                  go_wp2_with fail
                  go_meet
                  exact ⟨by rw [hre], HIZ.out⟩
                · have hre : rt = false := by rw [HRE.out, decide_eq_false h3]; rfl
                  have h3i : ((m5 : Int) == 0) = false := by rw [beq_eq_false_iff_ne]; omega
                  have h3j : ¬ (m5 : Int) = 0 := by omega
                  go_wp2_with fail
                  go_meet
                  exact ⟨by rw [hre], HIZ.out⟩
              · have hre : rt = false := by rw [HRE.out, decide_eq_false h2]; simp
                have h1i : (cn : Int) ≤ 16 := by omega
                have h2i : (8 : Int) < dp := by omega
                go_wp2_with fail
                go_meet
                exact ⟨by rw [hre], HIZ.out⟩
            · have hre : rt = false := by rw [HRE.out, decide_eq_false h1]; simp
              have h1i : (16 : Int) < cn := by omega
              go_wp2_with fail
              go_meet
              exact ⟨by rw [hre], HIZ.out⟩
        case rest =>
          obtain ⟨rfl, hin⟩ := hcut
          have HIB := Lib.hid hin
          clear hin HIZ HREF HRE HME HM5 q0 q1 q2 q3
          obtain ⟨l, hl⟩ : ∃ l, setF s = l := ⟨_, rfl⟩
          have hset := fun (V : World) (h : InBox k s w b4 b7 b9 (.slice A5 m5 c5) (.string nm2) (.bool g2) (.slice A6 m6 c6) T2 e V) => keepset_any s w.heap.size V h.at_.sok h.at_.bel.size
          unfold KSet.val at hset
          rw [hl] at hset HTO HRTO
          have HSET := Lib.hid hset
          clear hset hl
          have hln : (toF l e T2).length ≤ 600000 := Nat.le_trans (toF_len l e T2) hct
          generalize toF l e T2 = TQ at *
          obtain ⟨WN, hwn⟩ : ∃ WN, (if rt = true then TQ else []) = WN := ⟨_, rfl⟩
          rw [hwn] at HTO
          have HWN := Lib.hid hwn
          have hwl : WN.length ≤ 600000 := by
            rw [← hwn]
            split
            · exact hln
            · simp
          clear hwn
          go_upto_if 86 with fail
          go_cut [15] (fun x15 wx => ∃ (A : Option Addr) (c : Nat), x15 = .slice A WN.length c ∧ wx.ownsRow w.heap.size 9 1 (.slice A WN.length c) WN.length (strs WN) ∧ InBox k s w b4 b7 b9 (.slice A5 m5 c5) (.string nm2) (.bool g2) (.slice A6 m6 c6) T2 e wx)
          case first =>
            cases rt with
            | false =>
              have HE := Lib.hid (show WN = [] from by rw [← HWN.out]; rfl)
              clear HWN
              go_wp2_with fail
              go_meet
              exact ⟨none, 0, by rw [HE.out]; rfl, by rw [HE.out]; simpa [strs] using World.ownsRow_nil wc w.heap.size 9 1, HIB.out⟩
            | true =>
              have HE := Lib.hid (show WN = TQ from by rw [← HWN.out]; rfl)
              clear HWN
              go_upto_region 14 with fail
              have tokA : True := trivial
              have tokB : True := trivial
              have Z := Lib.hid (HIB.out.below (Below.refl _ _).drew)
              clear HIB
              go_region_held3 (fun W => W.cell? ⟨b9, 0, none⟩ = some (.slice A5 m5 c5) ∧ W.cell? ⟨b9, 1, none⟩ = some (.string nm2) ∧ W.cell? ⟨b9, 2, none⟩ = some (.bool g2) ∧ W.cell? ⟨b9, 3, none⟩ = some (.slice A6 m6 c6) ∧ W.cell? ⟨b7, 0, none⟩ = some (.slice s.A s.n s.c) ∧ W.cell? ⟨b7, 1, none⟩ = some (.slice s.A2 s.n2 s.c2)) (exact Z.out.at_.six) (first
                | (have tk := tokA; (with_reducible refine (HSET.out _ Z.out).mono ?_); rintro e' w5 hcl; obtain ⟨A9, c9, rfl, hol, hb5⟩ := ownL_of hcl; have HOL := Lib.hid hol; have Zn := Lib.hid (Z.out.below hb5); clear Z; have Z := Zn; clear Zn tokA tk hcl hol hb5)
                | (have tk := tokB; (with_reducible refine (HRTO.out _ _ Z.out.ok HOL.out.hasL).mono ?_); rintro e' w6 ⟨A4, c4, rfl, ho4, hb6, hc1, hc2⟩; have HOW := Lib.hid (own_mono ho4 Z.out.at_.bel.size); have Zn := Lib.hid (Z.out.below hb6); clear Z; have Z := Zn; clear Zn tokB tk ho4 hb6 hc1 hc2 HOL)
                | fail)
              all_goals
                go_wp2_with fail
                go_meet
                exact ⟨A4, c4, by rw [HE.out], by rw [HE.out]; exact HOW.out, Z.out⟩
          case rest =>
            obtain ⟨AW, cW, rfl, how, hin⟩ := hcut
            have HW := Lib.hid how
            have HIB2 := Lib.hid hin
            clear how hin HIB HRTO HWN
            go_upto_region 15 with fail
            have tok1 : True := trivial
            have tok2 : True := trivial
            have tok3 : True := trivial
            have tok4 : True := trivial
            have tok5 : True := trivial
            have tok6 : True := trivial
            have Z := Lib.hid (HIB2.out.below (Below.refl _ _).drew)
            have HWD := Lib.hid (own_below HW.out (Below.refl _ _).drew (Nat.le_refl _))
            have hrr : (rt == rt) = true := by simp
            have hcc : ((cn : Int) == (cn : Int)) = true := by simp
            clear HIB2 HW
            go_region_held3 (fun W => W.cell? ⟨b9, 0, none⟩ = some (.slice A5 m5 c5) ∧ W.cell? ⟨b9, 1, none⟩ = some (.string nm2) ∧ W.cell? ⟨b9, 2, none⟩ = some (.bool g2) ∧ W.cell? ⟨b9, 3, none⟩ = some (.slice A6 m6 c6) ∧ W.cell? ⟨b7, 0, none⟩ = some (.slice s.A s.n s.c) ∧ W.cell? ⟨b7, 1, none⟩ = some (.slice s.A2 s.n2 s.c2)) (exact Z.out.at_.six) (first
              | (have tk := tok1; (with_reducible refine (HRGT.out _ Z.out.ok).mono ?_); rintro e' w5 ⟨rfl, hb5⟩; have HWn := Lib.hid (own_below HWD.out hb5 (Nat.le_refl _)); clear HWD; have HWD := HWn; clear HWn; have Zn := Lib.hid (Z.out.below hb5); clear Z; have Z := Zn; clear Zn tok1 tk hb5)
              | (have tk := tok2; (with_reducible refine (HCNT.out _ Z.out.ok).mono ?_); rintro e' w6 ⟨rfl, hb5⟩; have HWn := Lib.hid (own_below HWD.out hb5 (Nat.le_refl _)); clear HWD; have HWD := HWn; clear HWn; have Zn := Lib.hid (Z.out.below hb5); clear Z; have Z := Zn; clear Zn tok2 tk hb5)
              | (have tk := tok3; (with_reducible refine (HSET.out _ Z.out).mono ?_); rintro e' w7 hcl; obtain ⟨A9, c9, rfl, hol, hb5⟩ := ownL_of hcl; have HOL := Lib.hid hol; have HWn := Lib.hid (own_below HWD.out hb5 (Nat.le_refl _)); clear HWD; have HWD := HWn; clear HWn; have Zn := Lib.hid (Z.out.below hb5); clear Z; have Z := Zn; clear Zn tok3 tk hcl hol hb5)
              | (have tk := tok4; (with_reducible refine (HTO.out _ _ Z.out.ok HOL.out.hasL).mono ?_); rintro e' w8 ⟨A4, c4, rfl, ho4, hb6, hc1, hc2⟩; have HOW := Lib.hid (Sees.of_own ho4); have HWn := Lib.hid (own_below HWD.out hb6 (Nat.le_refl _)); clear HWD; have HWD := HWn; clear HWn; have Zn := Lib.hid (Z.out.below hb6); clear Z; have Z := Zn; clear Zn tok4 tk ho4 hb6 hc1 hc2 HOL)
              | (have tk := tok5; (with_reducible refine (same_str A4 AW WN.length c4 WN.length cW _ _ WN WN _ HOW.out (Sees.of_own HWD.out) (by omega) (by omega)).mono ?_); rintro e' w9 ⟨rfl, m9, hw9⟩; have HBX := Lib.hid (show Below w.heap.size w w9 by rw [hw9]; exact below_drewN3 Z.out.at_.bel m9); have Zn := Lib.hid (show InBox k s w b4 b7 b9 (.slice A5 m5 c5) (.string nm2) (.bool g2) (.slice A6 m6 c6) T2 e w9 by rw [hw9]; exact Z.out.below (below_drewN3 (Below.refl _ _) m9)); clear Z; have Z := Zn; clear Zn tok5 tk hw9 HOW HWD)
              | (have tk := tok6; (with_reducible refine (route_runs _).mono ?_); rintro e' w10 ⟨rfl, hb5⟩; have HBY := Lib.hid (HBX.out.trans (hb5.mono HBX.out.size)); have Zn := Lib.hid (Z.out.below hb5); clear Z; have Z := Zn; clear Zn tok6 tk hb5)
              | fail)
            all_goals
              go_wp2_with fail
              go_ret
              exact ⟨rfl, HBY.out⟩
end Go.Proofs.Ytddkkfjgdfdcnaa
