/- expr.write. -/
import Derived.Test.YtcaapbbbekggiaaGreatDoorDeep
import Derived.Test.YtcaapbbbekggiaaGreatDoorPe2
import Derived.Test.YtcaapbbbekggiaaGreatDoorPrintM
import Derived.Test.YtcaapbbbekggiaaGreatDoorJoinS
namespace Go.Proofs.YtcaapbbbekggiaaGreatDoor
open Go.ChangeShapes Go.WideShapes Go.ChangeAt Go.RowKit
set_option linter.unusedVariables false
set_option linter.unusedSimpArgs false
set_option maxRecDepth 100000
theorem bat_below {w w' : World} {B b : Nat} {p : Value} {l : List Value} (h : Lib.BuilderAtF 52 5 B b p l w) (hb : Below w.heap.size w w') : Lib.BuilderAtF 52 5 B b p l w' := by
  obtain ⟨hB, v, hbk, hown, hne⟩ := h
  have hlt : b < w.heap.size := by
    rcases Nat.lt_or_ge b w.heap.size with h' | h'
    · exact h'
    · simp [Array.getElem?_eq_none h'] at hbk
  refine ⟨hB, v, (hb.block b hlt).trans hbk, ⟨hown.1, ?_⟩, hne⟩
  rcases hown.2 with h | ⟨g, cap, cur, fz, hv, hg, hh, rest⟩
  · exact .inl h
  · refine .inr ⟨g, cap, cur, fz, hv, hg, ?_, rest⟩
    have : g < w.heap.size := (Array.getElem?_eq_some_iff.1 hh).1
    exact (hb.block g this).trans hh
theorem Bld.below {w w' : World} {B b : Nat} {l : List Value} (h : Bld w B b l) (hb : Below w.heap.size w w') : Bld w' B b l := h.elim (fun x => .inl (bat_below x hb)) (fun x => .inr (bat_below x hb))
theorem others_below {e : TypeId} {b : Option Nat} {w w' : World} (hb : Below w.heap.size w w') : Lib.OthersKept e b w w' := fun k o hk _ _ => by
  have hlt : k < w.heap.size := (Array.getElem?_eq_some_iff.1 hk).1
  rw [hb.block k hlt]; exact hk
/-- Within write: the builder, the box, what is kept. -/
structure WrAt (wB w0 : World) (bb xb : Nat) (cs : List Value) (l : List UInt8) (w : World) : Prop where
  bld : Bld w bb bb (Lib.byteCells l)
  box : Blk w xb 26 cs
  kept : BldKept bb bb w0 w
  big : bb + 1 ≤ w.heap.size
  ne : xb ≠ bb
  bel : Below wB.heap.size wB w
  hB : wB.heap.size = bb
section
variable {wB w0 w w' : World} {bb xb : Nat} {cs : List Value} {l l' : List UInt8}
theorem WrAt.below (h : WrAt wB w0 bb xb cs l w) (hb : Below w.heap.size w w') : WrAt wB w0 bb xb cs l w' := by
  have h1 := h.big; have h2 := hb.size; have h3 := h.hB
  exact ⟨h.bld.below hb, h.box.below hb h.box.lt, ⟨h.kept.1.trans (hb.mono (by omega)), h.kept.2.trans (others_below hb)⟩, by omega, h.ne, h.bel.trans (hb.mono (by omega)), h3⟩
theorem WrAt.wrote (h : WrAt wB w0 bb xb cs l w) (hb : BldAt w' bb bb (Lib.byteCells l')) (hk : BldKept bb bb w w') : WrAt wB w0 bb xb cs l' w' := by
  have h1 := h.big; have h2 := hk.1.size; have h3 := h.hB
  exact ⟨hb.is, hk.blk h.box h.ne (by decide), ⟨h.kept.1.trans hk.1, h.kept.2.trans hk.2⟩, by omega, h.ne, h.bel.trans (hk.1.mono (by omega)), h3⟩
/-- The end: the builder with the last piece. -/
theorem WrAt.fin (h : WrAt wB w0 bb xb cs l w) (hb : BldAt w' bb bb (Lib.byteCells l')) (hk : BldKept bb bb w w') : BldAt w' bb bb (Lib.byteCells l') ∧ BldKept bb bb w0 w' :=
  ⟨hb, h.kept.1.trans hk.1, h.kept.2.trans hk.2⟩
end
/-- The kinds of a typed expression in memory. -/
theorem xe_typed {kk nn : Int} {mv nv kv : Value} {ms : List Mtc} {ns : List ByteArray} {ks : List XE} (h : (XE.mk kk nn mv ms nv ns kv ks).pe.ty ≠ 0) :
    (kk = 1 ∧ ms = [] ∧ ns = [] ∧ ks = []) ∨ (kk = 2 ∧ rightM ms = true ∧ 1 ≤ nn ∧ nn ≤ 1048576 ∧ ns = [] ∧ ks = []) ∨ (17 ≤ kk ∧ kk ≤ 20 ∧ nn = 0 ∧ ms = [] ∧ namesF ns = true ∧ ∃ a, ks = [a] ∧ a.pe.ty = 2) ∨ (3 ≤ kk ∧ kk ≤ 16 ∧ nn = 0 ∧ ms = [] ∧ ns = [] ∧ ∃ a b, ks = [a, b] ∧ a.pe.ty ≠ 0 ∧ b.pe.ty ≠ 0) := by
  have hp := ty_typed h
  obtain ⟨p, hpe⟩ : ∃ p, (XE.mk kk nn mv ms nv ns kv ks).pe = p := ⟨_, rfl⟩
  rw [hpe] at hp
  have hpe : PE.mk kk nn ms ns (pesX ks) = p := hpe
  have hnil : ∀ l : List XE, pesX l = [] → l = [] := fun l h => List.eq_nil_of_length_eq_zero (by rw [← pesX_length l, h]; rfl)
  cases hp with
  | num n => injection hpe with e1 e2 e3 e4 e5; exact .inl ⟨e1, e3, e4, hnil _ e5⟩
  | pick n ms' h h1 h2 => injection hpe with e1 e2 e3 e4 e5; subst e2; subst e3; exact .inr (.inl ⟨e1, h, h1, h2, e4, hnil _ e5⟩)
  | one k ns' a h1 h2 hn ha =>
    injection hpe with e1 e2 e3 e4 e5
    subst e1; subst e4
    refine .inr (.inr (.inl ⟨h1, h2, e2, e3, hn, ?_⟩))
    match ks, e5 with
    | [x], e5 => simp only [pesX] at e5; injection e5 with e5 _; exact ⟨x, rfl, by rw [e5]; exact ha⟩
    | [], e5 => simp [pesX] at e5
    | x :: y :: r, e5 => simp [pesX] at e5
  | two k a b h1 h2 ha hb =>
    injection hpe with e1 e2 e3 e4 e5
    subst e1
    refine .inr (.inr (.inr ⟨h1, h2, e2, e3, e4, ?_⟩))
    match ks, e5 with
    | [x, y], e5 => simp only [pesX] at e5; injection e5 with e5 e6; injection e6 with e6 _; exact ⟨x, y, rfl, by rw [e5]; exact ha, by rw [e6]; exact hb⟩
    | [], e5 => simp [pesX] at e5
    | [x], e5 => simp [pesX] at e5
    | x :: y :: z :: r, e5 => simp [pesX] at e5
theorem text_num (nn : Int) (ms : List Mtc) (ns : List ByteArray) (ks : List PE) : (PE.mk 1 nn ms ns ks).text = Lib.itoa nn := by
  conv => lhs; unfold PE.text
  rw [if_pos rfl]
theorem text_pick (nn : Int) (ms : List Mtc) (ns : List ByteArray) (ks : List PE) : (PE.mk 2 nn ms ns ks).text = 123 :: (joinM ms ++ (125 :: 91 :: (Lib.itoa nn ++ [93]))) := by
  conv => lhs; unfold PE.text
  rw [if_neg (by decide), if_pos rfl]
theorem text_one (kk nn : Int) (h : 17 ≤ kk) (ms : List Mtc) (ns : List ByteArray) (a : PE) : (PE.mk kk nn ms ns [a]).text = (wordX kk).data.toList ++ ([32, 98, 121, 32, 40] ++ (joinN ns ++ ([41, 32, 40] ++ (a.text ++ [41])))) := by
  conv => lhs; unfold PE.text
  rw [if_neg (by omega), if_neg (by omega), if_pos h]; rfl
theorem text_two (kk nn : Int) (h1 : 3 ≤ kk) (h2 : kk ≤ 16) (ms : List Mtc) (ns : List ByteArray) (a b : PE) : (PE.mk kk nn ms ns [a, b]).text = 40 :: (a.text ++ (32 :: ((signX kk).data.toList ++ (32 :: (b.text ++ [41]))))) := by
  conv => lhs; unfold PE.text
  rw [if_neg (by omega), if_neg (by omega), if_neg (by omega)]; rfl
/-- What is told of write at trees of so many floors. -/
def WriteSaid (wB : World) (bb d : Nat) : Prop := ∀ (x : XE) (l : List UInt8) (w : World), okX d x wB → x.pe.ty ≠ 0 → x.pe.fits → Below wB.heap.size wB w → wB.heap.size = bb → bb + 1 ≤ w.heap.size → Tab wB →
  (l ++ x.pe.text).length ≤ 1000000000 → Bld w bb bb (Lib.byteCells l) →
    Calls Tryz.prog 28 #[.pointer (some ⟨bb, 0, none⟩), x.val] w fun e w' => e = .returned (.tuple #[]) ∧ BldAt w' bb bb (Lib.byteCells (l ++ x.pe.text)) ∧ BldKept bb bb w w'
theorem wr_start {wB w : World} {bb : Nat} {cs : List Value} {l : List UInt8} (hB : wB.heap.size = bb) (hbel : Below wB.heap.size wB w) (hbig : bb + 1 ≤ w.heap.size) (hbl : Bld w bb bb (Lib.byteCells l)) :
    WrAt wB w bb w.heap.size cs l (w.alloc (.cells cs.toArray 26)) := by
  have ha : Below w.heap.size w (w.alloc (.cells cs.toArray 26)) := (Below.refl _ _).alloc (Nat.le_refl _) _
  exact ⟨hbl.below ha, Blk.mk (heap_alloc_new w _), ⟨ha.mono (by omega), others_below ha⟩, by have := ha.size; omega, by omega, hbel.trans (ha.mono (by omega)), hB⟩
set_option maxHeartbeats 4000000 in
theorem write_num (wB : World) (bb d : Nat) (kk nn : Int) (A1 A2 A3 : Option Addr) (c1 c2 c3 : Nat) (l : List UInt8) (w : World) (hk : kk = 1) (hI : I64 nn) (hB : wB.heap.size = bb) (hbel : Below wB.heap.size wB w) (hbig : bb + 1 ≤ w.heap.size) (ht : Tab wB)
    (hlen : (l ++ Lib.itoa nn).length ≤ 1000000000) (hbl : Bld w bb bb (Lib.byteCells l)) :
    Calls Tryz.prog 28 #[.pointer (some ⟨bb, 0, none⟩), .agg #[.int .i64 kk, .int .i64 nn, .slice A1 0 c1, .slice A2 0 c2, .slice A3 0 c3]] w fun e w' => e = .returned (.tuple #[]) ∧ BldAt w' bb bb (Lib.byteCells (l ++ Lib.itoa nn)) ∧ BldKept bb bb w w' := by
  subst hk
  have HA := Lib.hid (wr_start (cs := [.int .i64 1, .int .i64 nn, .slice A1 0 c1, .slice A2 0 c2, .slice A3 0 c3]) hB hbel hbig hbl)
  have HT := Lib.hid ht; have HN := Lib.hid hI; have HLN := Lib.hid hlen
  have HG := Lib.hid (show ∃ g, w.heap.size = g from ⟨_, rfl⟩)
  clear hbl hbel ht hI hlen
  go_enter Tryz.func28, Tryz.ntmps28
  go_upto_region 1 with fail
  obtain ⟨xb, hxb⟩ := HG.out
  rw [hxb] at HA ⊢
  clear HG hxb
  have HA1 : Hid (WrAt wB w bb xb [.int .i64 1, .int .i64 nn, .slice A1 0 c1, .slice A2 0 c2, .slice A3 0 c3] l (w.alloc (.cells #[.int .i64 1, .int .i64 nn, .slice A1 0 c1, .slice A2 0 c2, .slice A3 0 c3] 26))) := HA
  clear HA
  generalize w.alloc (.cells #[.int .i64 1, .int .i64 nn, .slice A1 0 c1, .slice A2 0 c2, .slice A3 0 c3] 26) = W1 at *
  obtain ⟨x0, x1, x2, x3, x4⟩ := blk_cells5 HA1.out.box
  have HI := Lib.hid (itoa_below nn HN.out.1 HN.out.2 W1 (tab_of HT.out HA1.out.bel))
  go_wp2_with fail
  (with_reducible refine HI.out.mono ?_); rintro e w2 ⟨rfl, hb2⟩
  have HA2 := Lib.hid (HA1.out.below hb2)
  have hbg := HA2.out.big
  clear hb2 HI HA1 x0 x1 x2 x3 x4
  go_wp2_with fail
  refine (bStringU bb bb l ⟨(Lib.itoa nn).toArray⟩ _ HA2.out.bld (by have := HLN.out; rw [List.length_append] at this; show l.length + (Lib.itoa nn).toArray.size ≤ _; simp; omega) (by omega)).mono ?_
  rintro e w5 ⟨rfl, hbl, hk⟩
  have HF := Lib.hid (HA2.out.fin hbl hk)
  clear hbl hk HA2
  go_wp2_with fail
  go_end0
  exact ⟨rfl, HF.out⟩
set_option maxHeartbeats 4000000 in
theorem write_pick (wB : World) (bb d : Nat) (kk nn : Int) (A1 A2 A3 : Option Addr) (c1 c2 c3 : Nat) (ms : List Mtc) (l : List UInt8) (w : World) (hk : kk = 2) (hI : I64 nn) (hr : rightM ms = true) (hS : Slc wB 3 (.slice A1 ms.length c1) ms.length (mtcs ms)) (hB : wB.heap.size = bb) (hbel : Below wB.heap.size wB w) (hbig : bb + 1 ≤ w.heap.size) (ht : Tab wB)
    (hlen : (l ++ (123 :: (joinM ms ++ (125 :: 91 :: (Lib.itoa nn ++ [93]))))).length ≤ 1000000000) (hbl : Bld w bb bb (Lib.byteCells l)) :
    Calls Tryz.prog 28 #[.pointer (some ⟨bb, 0, none⟩), .agg #[.int .i64 kk, .int .i64 nn, .slice A1 ms.length c1, .slice A2 0 c2, .slice A3 0 c3]] w fun e w' => e = .returned (.tuple #[]) ∧ BldAt w' bb bb (Lib.byteCells (l ++ (123 :: (joinM ms ++ (125 :: 91 :: (Lib.itoa nn ++ [93])))))) ∧ BldKept bb bb w w' := by
  subst hk
  have HA : Hid (WrAt wB w bb w.heap.size [.int .i64 2, .int .i64 nn, .slice A1 ms.length c1, .slice A2 0 c2, .slice A3 0 c3] l (w.alloc (.cells #[.int .i64 2, .int .i64 nn, .slice A1 ms.length c1, .slice A2 0 c2, .slice A3 0 c3] 26))) := Lib.hid (wr_start (cs := [.int .i64 2, .int .i64 nn, .slice A1 ms.length c1, .slice A2 0 c2, .slice A3 0 c3]) hB hbel hbig hbl)
  have HT := Lib.hid ht; have HN := Lib.hid hI
  obtain ⟨m1, m2, m3⟩ := Slc.slice hS
  have HSM := Lib.hid m1
  obtain ⟨P1, hP1⟩ : ∃ P, (⟨(printM ms).toArray⟩ : ByteArray) = P := ⟨_, rfl⟩
  obtain ⟨P2, hP2⟩ : ∃ P, (⟨(Lib.itoa nn).toArray⟩ : ByteArray) = P := ⟨_, rfl⟩
  have HMP := Lib.hid (fun (V : World) (hV : WrAt wB w bb w.heap.size [.int .i64 2, .int .i64 nn, .slice A1 ms.length c1, .slice A2 0 c2, .slice A3 0 c3] l V) => show Calls Tryz.prog 48 #[.slice A1 ms.length c1] V fun e w' => e = .returned (.string P1) ∧ Below V.heap.size V w' by
    rw [← hP1]
    exact printM_any A1 ms.length c1 ms wB.heap.size V (HSM.out.below hV.bel) hV.bel.size (by omega))
  have HIT := Lib.hid (fun (V : World) (hV : WrAt wB w bb w.heap.size [.int .i64 2, .int .i64 nn, .slice A1 ms.length c1, .slice A2 0 c2, .slice A3 0 c3] l V) => show Calls Tryz.prog 47 #[.int .i64 nn] V fun e w' => e = .returned (.string P2) ∧ Below V.heap.size V w' by
    rw [← hP2]
    exact itoa_below nn hI.1 hI.2 V (tab_of ht hV.bel))
  have hpm : printM ms = 123 :: (joinM ms ++ [125]) := by unfold printM; rw [if_pos hr]
  have hs1 : P1.size = (joinM ms).length + 2 := by rw [← hP1, hpm]; show (123 :: (joinM ms ++ [125])).toArray.size = _; simp
  have hs2 : P2.size = (Lib.itoa nn).length := by rw [← hP2]; show (Lib.itoa nn).toArray.size = _; simp
  have HTX := Lib.hid (show l ++ (P1 ++ ⟨#[91]⟩ ++ P2 ++ ⟨#[93]⟩ : ByteArray).data.toList = l ++ (123 :: (joinM ms ++ (125 :: 91 :: (Lib.itoa nn ++ [93])))) by
    rw [← hP1, ← hP2, hpm]; simp)
  have hl0 : l.length + ((joinM ms).length + (Lib.itoa nn).length + 4) ≤ 1000000000 := by
    simp only [List.length_append, List.length_cons, List.length_nil] at hlen; omega
  have hls : l.length + (P1 ++ ⟨#[91]⟩ ++ P2 ++ ⟨#[93]⟩ : ByteArray).size ≤ 1000000000 := by
    rw [ByteArray.size_append, ByteArray.size_append, ByteArray.size_append, hs1, hs2]
    show l.length + ((joinM ms).length + 2 + 1 + (Lib.itoa nn).length + 1) ≤ _; omega
  have l1 : ¬ (9223372036854775807 < P1.size + 1) := by omega
  have l2 : ¬ (9223372036854775807 < P1.size + 1 + P2.size) := by omega
  have l3 : ¬ (9223372036854775807 < P1.size + 1 + P2.size + 1) := by omega
  have HLS := Lib.hid hls
  have HG := Lib.hid (show ∃ g, w.heap.size = g from ⟨_, rfl⟩)
  clear hbl hbel ht hI hlen hS m1 m2 m3 hP1 hP2 hpm hr hs1 hs2 hls hl0
  go_enter Tryz.func28, Tryz.ntmps28
  go_upto_region 1 with fail
  obtain ⟨xb, hxb⟩ := HG.out
  rw [hxb] at HA HMP HIT ⊢
  clear HG hxb
  generalize w.alloc (.cells #[.int .i64 2, .int .i64 nn, .slice A1 ms.length c1, .slice A2 0 c2, .slice A3 0 c3] 26) = W1 at *
  obtain ⟨x0, x1, x2, x3, x4⟩ := blk_cells5 HA.out.box
  go_upto_region 10 with fail
  clear x0 x1 x2 x3 x4
  refine wp_region_facts_tail 10 (R := fun a b => Below a.heap.size a b) (G := (fun W => WrAt wB w bb xb [.int .i64 2, .int .i64 nn, .slice A1 ms.length c1, .slice A2 0 c2, .slice A3 0 c3] l W)) (V := fun i' u' W => match i' with | 0 => u' = .pointer (some ⟨bb, 0, none⟩) | 1 => u' = .pointer (some ⟨xb, 2, none⟩) | 2 => u' = .slice A1 ms.length c1 | 3 => u' = .string P1 | 4 => u' = .string (P1 ++ ⟨#[91]⟩) | 5 => u' = .pointer (some ⟨xb, 1, none⟩) | 6 => u' = .int .i64 nn | 7 => u' = .string P2 | 8 => u' = .string (P1 ++ ⟨#[91]⟩ ++ P2) | 9 => u' = .string (P1 ++ ⟨#[91]⟩ ++ P2 ++ ⟨#[93]⟩) | _ => True) (by kernel_rfl) (fun w => Below.refl _ _) (fun a b c h1 h2 => h1.trans (h2.mono h1.size)) (by kernel_rfl) (by kernel_rfl) (by kernel_rfl) (by kernel_rfl) (by decide) (by kernel_rfl) ?hG ⟨?o0, ?o1, ?o2, ?o3, ?o4, ?o5, ?o6, ?o7, ?o8, ?o9, trivial⟩ ?hend
  case o0 =>
    intro a w hfr hG hd
    refine ⟨fun hw => ?_, fun hw => absurd hw (by simp [Region.wanted])⟩
    have s0 : a.tmps.getD 0 undef = .pointer (some ⟨bb, 0, none⟩) := hfr.at 0 (by kernel_rfl)
    refine op_yields (.pointer (some ⟨bb, 0, none⟩)) ?_ ?_ ?_
    · simp only [execOp, resolve, List.map_toArray, List.map_cons, List.map_nil, Act.eval, s0]; simp [go_sem, -Array.getD_eq_getD_getElem?, s0]
    · exact Below.refl _ _
    · exact (fun _ _ => rfl)
  case o1 =>
    intro a w hfr hG hd
    refine ⟨fun hw => ?_, fun hw => absurd hw (by simp [Region.wanted])⟩
    have s3 : a.tmps.getD 3 undef = .pointer (some ⟨xb, 0, none⟩) := hfr.at 3 (by kernel_rfl)
    refine op_yields (.pointer (some ⟨xb, 2, none⟩)) ?_ ?_ ?_
    · simp only [execOp, resolve, List.map_toArray, List.map_cons, List.map_nil, Act.eval, s3]; simp [go_sem, -Array.getD_eq_getD_getElem?, s3]
    · exact Below.refl _ _
    · exact (fun _ _ => rfl)
  case o2 =>
    intro a w hfr hG hd
    obtain ⟨d0, _⟩ := hd
    refine ⟨fun hw => ?_, fun hw => absurd hw (by simp [Region.wanted])⟩
    have s39 : a.tmps.getD 39 undef = .pointer (some ⟨xb, 2, none⟩) := (d0 rfl).now
    obtain ⟨z0, z1, z2, z3, z4⟩ := blk_cells5 hG.now.box
    refine op_yields (.slice A1 ms.length c1) ?_ ?_ ?_
    · simp only [execOp, resolve, List.map_toArray, List.map_cons, List.map_nil, Act.eval, s39]; simp [go_sem, -Array.getD_eq_getD_getElem?, s39, z2]
    · exact Below.refl _ _
    · exact (fun _ _ => rfl)
  case o3 =>
    intro a w hfr hG hd
    obtain ⟨d0, _⟩ := hd
    refine ⟨fun hw => ?_, fun hw => absurd hw (by simp [Region.wanted])⟩
    have s40 : a.tmps.getD 40 undef = .slice A1 ms.length c1 := (d0 rfl).now
    refine op_calls2 ((HMP.out w hG.now).mono fun e' w' hh => ⟨_, hh.1, hh.2, (fun _ _ => rfl)⟩) ?_
    simp only [execOp, resolve, List.map_toArray, List.map_cons, List.map_nil, Act.eval, s40]; simp [go_sem, -Array.getD_eq_getD_getElem?, s40]
  case o4 =>
    intro a w hfr hG hd
    obtain ⟨d0, _⟩ := hd
    refine ⟨fun hw => ?_, fun hw => absurd hw (by simp [Region.wanted])⟩
    have s41 : a.tmps.getD 41 undef = .string P1 := (d0 rfl).now
    refine op_yields (.string (P1 ++ ⟨#[91]⟩)) ?_ ?_ ?_
    · simp only [execOp, resolve, List.map_toArray, List.map_cons, List.map_nil, Act.eval, s41]; simp [go_sem, -Array.getD_eq_getD_getElem?, s41, l1]
    · exact Below.refl _ _
    · exact (fun _ _ => rfl)
  case o5 =>
    intro a w hfr hG hd
    refine ⟨fun hw => ?_, fun hw => absurd hw (by simp [Region.wanted])⟩
    have s3 : a.tmps.getD 3 undef = .pointer (some ⟨xb, 0, none⟩) := hfr.at 3 (by kernel_rfl)
    refine op_yields (.pointer (some ⟨xb, 1, none⟩)) ?_ ?_ ?_
    · simp only [execOp, resolve, List.map_toArray, List.map_cons, List.map_nil, Act.eval, s3]; simp [go_sem, -Array.getD_eq_getD_getElem?, s3]
    · exact Below.refl _ _
    · exact (fun _ _ => rfl)
  case o6 =>
    intro a w hfr hG hd
    obtain ⟨d0, _⟩ := hd
    refine ⟨fun hw => ?_, fun hw => absurd hw (by simp [Region.wanted])⟩
    have s43 : a.tmps.getD 43 undef = .pointer (some ⟨xb, 1, none⟩) := (d0 rfl).now
    obtain ⟨z0, z1, z2, z3, z4⟩ := blk_cells5 hG.now.box
    refine op_yields (.int .i64 nn) ?_ ?_ ?_
    · simp only [execOp, resolve, List.map_toArray, List.map_cons, List.map_nil, Act.eval, s43]; simp [go_sem, -Array.getD_eq_getD_getElem?, s43, z1]
    · exact Below.refl _ _
    · exact (fun _ _ => rfl)
  case o7 =>
    intro a w hfr hG hd
    obtain ⟨d0, d1, _⟩ := hd
    refine ⟨fun hw => ?_, fun hw => absurd hw (by simp [Region.wanted])⟩
    have s44 : a.tmps.getD 44 undef = .int .i64 nn := (d0 rfl).now
    refine op_calls2 ((HIT.out w hG.now).mono fun e' w' hh => ⟨_, hh.1, hh.2, (fun _ _ => rfl)⟩) ?_
    simp only [execOp, resolve, List.map_toArray, List.map_cons, List.map_nil, Act.eval, s44]; simp [go_sem, -Array.getD_eq_getD_getElem?, s44]
  case o8 =>
    intro a w hfr hG hd
    obtain ⟨d0, d1, _⟩ := hd
    refine ⟨fun hw => ?_, fun hw => absurd hw (by simp [Region.wanted])⟩
    have s42 : a.tmps.getD 42 undef = .string (P1 ++ ⟨#[91]⟩) := (d0 rfl).now
    have s45 : a.tmps.getD 45 undef = .string P2 := (d1 rfl).now
    refine op_yields (.string (P1 ++ ⟨#[91]⟩ ++ P2)) ?_ ?_ ?_
    · simp only [execOp, resolve, List.map_toArray, List.map_cons, List.map_nil, Act.eval, s42, s45]; simp [go_sem, -Array.getD_eq_getD_getElem?, s42, s45, l2]
    · exact Below.refl _ _
    · exact (fun _ _ => rfl)
  case o9 =>
    intro a w hfr hG hd
    obtain ⟨d0, _⟩ := hd
    refine ⟨fun hw => ?_, fun hw => absurd hw (by simp [Region.wanted])⟩
    have s46 : a.tmps.getD 46 undef = .string (P1 ++ ⟨#[91]⟩ ++ P2) := (d0 rfl).now
    refine op_yields (.string (P1 ++ ⟨#[91]⟩ ++ P2 ++ ⟨#[93]⟩)) ?_ ?_ ?_
    · simp only [execOp, resolve, List.map_toArray, List.map_cons, List.map_nil, Act.eval, s46]; simp [go_sem, -Array.getD_eq_getD_getElem?, s46, l3]
    · exact Below.refl _ _
    · exact (fun _ _ => rfl)
  case hG => exact fun w' hb => HA.out.below ((Below.refl _ _).drew.trans (hb.mono (by simp)))
  case hend =>
    intro vs w' hG hv
    have key : vs 0 = .pointer (some ⟨bb, 0, none⟩) ∧ vs 9 = .string (P1 ++ ⟨#[91]⟩ ++ P2 ++ ⟨#[93]⟩) := by
      obtain ⟨h0, _, _, _, _, _, _, _, _, h9, _⟩ := hv
      exact ⟨h0.now, h9.now⟩
    have HP2 := Lib.hid hG.now
    clear hv hG HA HMP HIT
    change wpList _ _ _ [_] (putAll vs 0 [_, _, _, _, _, _, _, _, _, _] _) _
    simp only [putAll, Act.put, key.1, key.2]
    clear key
    have hbg := HP2.out.big
    generalize P1 ++ ⟨#[91]⟩ ++ P2 ++ ⟨#[93]⟩ = PP at *
    go_simp
    go_wp2_with fail
    refine (bStringU bb bb l PP _ HP2.out.bld (by have := HLS.out; omega) (by omega)).mono ?_
    rintro e w5 ⟨rfl, hbl, hk⟩
    have HF := Lib.hid (HP2.out.fin hbl hk)
    clear hbl hk HP2
    go_wp2_with fail
    go_end0
    exact ⟨rfl, by rw [← HTX.out]; exact HF.out⟩
/-- A kid's cells, as they lay. -/
theorem kid_at {wB w : World} {ad : Addr} {n c : Nat} {ks : List XE} (h : Slc wB 5 (.slice (some ad) n c) n (kcells ks)) (hb : Below wB.heap.size wB w) : ∀ j u, (kcells ks)[j]? = some u → w.cell? (ad.add j) = some u := by
  intro j u hj
  obtain ⟨s3, _, _⟩ := Slc.slice h
  have hn : 0 < n := by
    rcases Nat.eq_zero_or_pos n with h0 | h0
    · have := s3.len
      have hl := (List.getElem?_eq_some_iff.1 hj).1
      rw [this, h0] at hl; omega
    · exact h0
  obtain ⟨ad', e, hlt, hc⟩ := s3.at_ hn
  injection e with e; subst e
  rw [hb.cell (by rw [add_block]; exact hlt)]
  exact hc j u hj
set_option maxHeartbeats 4000000 in
theorem write_one (wB : World) (bb d : Nat) (IH : WriteSaid wB bb d) (kk : Int) (A1 A2 : Option Addr) (ad : Addr) (c1 c2 c3 : Nat) (ns : List ByteArray) (a : XE) (l : List UInt8) (w : World) (hk1 : 17 ≤ kk) (hk2 : kk ≤ 20) (hn : namesF ns = true)
    (hS : Slc wB 1 (.slice A2 ns.length c2) ns.length (strs ns)) (hK : Slc wB 5 (.slice (some ad) 1 c3) 1 (kcells [a])) (hok : okX d a wB) (hty : a.pe.ty ≠ 0) (hfit : a.pe.fits) (hB : wB.heap.size = bb) (hbel : Below wB.heap.size wB w) (hbig : bb + 1 ≤ w.heap.size) (ht : Tab wB)
    (hlen : (l ++ ((wordX kk).data.toList ++ ([32, 98, 121, 32, 40] ++ (joinN ns ++ ([41, 32, 40] ++ (a.pe.text ++ [41])))))).length ≤ 1000000000) (hbl : Bld w bb bb (Lib.byteCells l)) :
    Calls Tryz.prog 28 #[.pointer (some ⟨bb, 0, none⟩), .agg #[.int .i64 kk, .int .i64 0, .slice A1 0 c1, .slice A2 ns.length c2, .slice (some ad) 1 c3]] w fun e w' => e = .returned (.tuple #[]) ∧ BldAt w' bb bb (Lib.byteCells (l ++ ((wordX kk).data.toList ++ ([32, 98, 121, 32, 40] ++ (joinN ns ++ ([41, 32, 40] ++ (a.pe.text ++ [41]))))))) ∧ BldKept bb bb w w' := by
  have HA : Hid (WrAt wB w bb w.heap.size [.int .i64 kk, .int .i64 0, .slice A1 0 c1, .slice A2 ns.length c2, .slice (some ad) 1 c3] l (w.alloc (.cells #[.int .i64 kk, .int .i64 0, .slice A1 0 c1, .slice A2 ns.length c2, .slice (some ad) 1 c3] 26))) := Lib.hid (wr_start (cs := [.int .i64 kk, .int .i64 0, .slice A1 0 c1, .slice A2 ns.length c2, .slice (some ad) 1 c3]) hB hbel hbig hbl)
  obtain ⟨m1, m2, m3⟩ := Slc.slice hS
  have HSM := Lib.hid m1
  have hnf := namesF_facts hn
  obtain ⟨P1, hP1⟩ : ∃ P, wordX kk = P := ⟨_, rfl⟩
  obtain ⟨P2, hP2⟩ : ∃ P, (⟨(joinN ns).toArray⟩ : ByteArray) = P := ⟨_, rfl⟩
  have HWD := Lib.hid (fun V => word_x kk V)
  rw [hP1] at HWD
  have HJN := Lib.hid (fun (V : World) (hV : WrAt wB w bb w.heap.size [.int .i64 kk, .int .i64 0, .slice A1 0 c1, .slice A2 ns.length c2, .slice (some ad) 1 c3] l V) => show Calls Tryz.prog 49 #[.slice A2 ns.length c2, .string ⟨#[44]⟩] V fun e w' => e = .returned (.string P2) ∧ Below V.heap.size V w' by
    rw [← hP2]
    exact joinS_any A2 ns.length c2 wB.heap.size ns V (HSM.out.below hV.bel) hV.bel.size m2 m3 hnf.1 (fun s hs => (wordF_sz (hnf.2 s hs)).2))
  have hs1 : P1.size = (wordX kk).data.toList.length := by rw [← hP1]; simp
  have hs2 : P2.size = (joinN ns).length := by rw [← hP2]; show (joinN ns).toArray.size = _; simp
  obtain ⟨T, hT⟩ : ∃ T, a.pe.text = T := ⟨_, rfl⟩
  obtain ⟨L2, hL2⟩ : ∃ L2, l ++ (P1 ++ ⟨#[32, 98, 121, 32, 40]⟩ ++ P2 ++ ⟨#[41, 32, 40]⟩ : ByteArray).data.toList = L2 := ⟨_, rfl⟩
  have HTX := Lib.hid (show L2 ++ T ++ [41] = l ++ ((wordX kk).data.toList ++ ([32, 98, 121, 32, 40] ++ (joinN ns ++ ([41, 32, 40] ++ (a.pe.text ++ [41]))))) by
    have e : (P1 ++ ⟨#[32, 98, 121, 32, 40]⟩ ++ P2 ++ ⟨#[41, 32, 40]⟩ : ByteArray).data.toList = P1.data.toList ++ ([32, 98, 121, 32, 40] ++ (joinN ns ++ [41, 32, 40])) := by
      rw [ByteArray.data_append, ByteArray.data_append, ByteArray.data_append, Array.toList_append, Array.toList_append, Array.toList_append, List.append_assoc, List.append_assoc, ← hP2]
    rw [← hL2, e, hT, hP1]
    simp only [List.append_assoc])
  have hl0 : (L2 ++ T ++ [41]).length ≤ 1000000000 := by rw [HTX.out]; exact hlen
  rw [← HTX.out]
  have hls : l.length + (P1 ++ ⟨#[32, 98, 121, 32, 40]⟩ ++ P2 ++ ⟨#[41, 32, 40]⟩ : ByteArray).size ≤ 1000000000 := by
    have e : (P1 ++ ⟨#[32, 98, 121, 32, 40]⟩ ++ P2 ++ ⟨#[41, 32, 40]⟩ : ByteArray).size = (P1 ++ ⟨#[32, 98, 121, 32, 40]⟩ ++ P2 ++ ⟨#[41, 32, 40]⟩ : ByteArray).data.toList.length := (ba_len _).symm
    rw [e, ← List.length_append, hL2]
    rw [List.length_append, List.length_append] at hl0; omega
  have hl1 : P1.size + P2.size ≤ 1000000000 := by
    have h5 := hls
    rw [ByteArray.size_append, ByteArray.size_append, ByteArray.size_append] at h5
    omega
  have l1 : ¬ (9223372036854775807 < P1.size + 5) := by omega
  have l2 : ¬ (9223372036854775807 < P1.size + 5 + P2.size) := by omega
  have l3 : ¬ (9223372036854775807 < P1.size + 5 + P2.size + 3) := by omega
  have HLS := Lib.hid hls
  have HL0 := Lib.hid hl0
  have HL2 := Lib.hid hL2
  have HC := Lib.hid (fun (V : World) (hV : Below wB.heap.size wB V) => show V.cell? ad = some (.int .i64 a.kd) ∧ V.cell? ⟨ad.block, ad.off + 1, none⟩ = some (.int .i64 a.n) ∧ V.cell? ⟨ad.block, ad.off + 2, none⟩ = some a.mv ∧ V.cell? ⟨ad.block, ad.off + 3, none⟩ = some a.nv ∧ V.cell? ⟨ad.block, ad.off + 4, none⟩ = some a.kv from kidT_cells0 (kid_at hK hV))
  have HIA := Lib.hid (fun (V : World) (h1 : Below wB.heap.size wB V) (h2 : bb + 1 ≤ V.heap.size) (h3 : Bld V bb bb (Lib.byteCells L2)) => by
    have h4 := IH a L2 V hok hty hfit h1 hB h2 ht (by rw [hT]; rw [List.length_append] at hl0; omega) h3
    rw [hT] at h4; exact h4)
  obtain ⟨B1, b1, B2, b2, B3, b3, v1, v2, v3⟩ := okX_forms hok
  have hval : a.val = .agg #[.int .i64 a.kd, .int .i64 a.n, .slice B1 a.ms.length b1, .slice B2 a.ns.length b2, .slice B3 a.kids.length b3] := by unfold XE.val; rw [v1, v2, v3]
  rw [v1, v2, v3] at HC
  rw [hval] at HIA
  have hkt : (kk == 17) = true ∨ (kk == 17) = false ∧ ((kk == 18) = true ∨ (kk == 18) = false ∧ ((kk == 19) = true ∨ (kk == 19) = false ∧ (kk == 20) = true)) := by
    simp only [beq_iff_eq, beq_eq_false_iff_ne]; omega
  have q1 : (kk == 1) = false := by rw [beq_eq_false_iff_ne]; omega
  have q2 : (kk == 2) = false := by rw [beq_eq_false_iff_ne]; omega
  have HG := Lib.hid (show ∃ g, w.heap.size = g from ⟨_, rfl⟩)
  have HKT := Lib.hid hkt
  clear hbl hbel ht hlen hS m1 m2 m3 hP1 hP2 hs1 hs2 hls hl0 hl1 hK hok hty hfit hT hL2 v1 v2 v3 hval hnf hkt hk1 hk2 IH HTX
  generalize a.ms.length = k1 at *
  generalize a.ns.length = k2 at *
  generalize a.kids.length = k3 at *
  generalize a.kd = akd at *
  generalize a.n = an at *
  go_enter Tryz.func28, Tryz.ntmps28
  go_upto_region 1 with fail
  obtain ⟨xb, hxb⟩ := HG.out
  rw [hxb] at HA HJN ⊢
  clear HG hxb
  generalize w.alloc (.cells #[.int .i64 kk, .int .i64 0, .slice A1 0 c1, .slice A2 ns.length c2, .slice (some ad) 1 c3] 26) = W1 at *
  obtain ⟨x0, x1, x2, x3, x4⟩ := blk_cells5 HA.out.box
  obtain ⟨p1, hp1⟩ : ∃ p, (kk == 17) = p := ⟨_, rfl⟩
  have HP1 := Lib.hid hp1
  go_upto_region 11 with fail
  clear x0 x1 x2 x3 x4
  go_upto_if 49 with fail
  clear hp1
  go_cut [49] from 51 to 53 (fun y49 wx => y49 = .bool true ∧ WrAt wB w bb xb [.int .i64 kk, .int .i64 0, .slice A1 0 c1, .slice A2 ns.length c2, .slice (some ad) 1 c3] l wx)
  case first =>
    rcases HKT.out with r1 | ⟨r1, r2 | ⟨r2, r3 | ⟨r3, r4⟩⟩⟩
    · obtain rfl : p1 = true := by rw [← HP1.out]; exact r1
      clear HKT r1
      go_wp2_with fail
      go_meet
      exact ⟨rfl, HA.out⟩
    · obtain rfl : p1 = false := by rw [← HP1.out]; exact r1
      clear HKT r1
      go_wp2_with fail
      go_meet
      exact ⟨rfl, HA.out⟩
    · obtain rfl : p1 = false := by rw [← HP1.out]; exact r1
      clear HKT r1
      go_wp2_with fail
      go_meet
      exact ⟨rfl, HA.out⟩
    · obtain rfl : p1 = false := by rw [← HP1.out]; exact r1
      clear HKT r1
      go_wp2_with fail
      go_meet
      exact ⟨rfl, HA.out⟩
  case rest =>
    obtain ⟨rfl, hat⟩ := hcut
    clear HA
    have HA := Lib.hid hat
    clear hat HKT
    go_upto_region 15 with fail
    go_cut [] from 54 to 64 (fun wx => WrAt wB w bb xb [.int .i64 kk, .int .i64 0, .slice A1 0 c1, .slice A2 ns.length c2, .slice (some ad) 1 c3] L2 wx)
    case first =>
      refine wp_region_facts_tail 10 (R := fun a b => Below a.heap.size a b) (G := (fun W => WrAt wB w bb xb [.int .i64 kk, .int .i64 0, .slice A1 0 c1, .slice A2 ns.length c2, .slice (some ad) 1 c3] l W)) (V := fun i' u' W => match i' with | 0 => u' = .pointer (some ⟨bb, 0, none⟩) | 1 => u' = .pointer (some ⟨xb, 0, none⟩) | 2 => u' = .int .i64 kk | 3 => u' = .string P1 | 4 => u' = .string (P1 ++ ⟨#[32, 98, 121, 32, 40]⟩) | 5 => u' = .pointer (some ⟨xb, 3, none⟩) | 6 => u' = .slice A2 ns.length c2 | 7 => u' = .string P2 | 8 => u' = .string (P1 ++ ⟨#[32, 98, 121, 32, 40]⟩ ++ P2) | 9 => u' = .string (P1 ++ ⟨#[32, 98, 121, 32, 40]⟩ ++ P2 ++ ⟨#[41, 32, 40]⟩) | _ => True) (by kernel_rfl) (fun w => Below.refl _ _) (fun a b c h1 h2 => h1.trans (h2.mono h1.size)) (by kernel_rfl) (by kernel_rfl) (by kernel_rfl) (by kernel_rfl) (by decide) (by kernel_rfl) ?hG ⟨?o0, ?o1, ?o2, ?o3, ?o4, ?o5, ?o6, ?o7, ?o8, ?o9, trivial⟩ ?hend
      case o0 =>
        intro a w hfr hG hd
        refine ⟨fun hw => ?_, fun hw => absurd hw (by simp [Region.wanted])⟩
        have s0 : a.tmps.getD 0 undef = .pointer (some ⟨bb, 0, none⟩) := hfr.at 0 (by kernel_rfl)
        refine op_yields (.pointer (some ⟨bb, 0, none⟩)) ?_ ?_ ?_
        · simp only [execOp, resolve, List.map_toArray, List.map_cons, List.map_nil, Act.eval, s0]; simp [go_sem, -Array.getD_eq_getD_getElem?, s0]
        · exact Below.refl _ _
        · exact (fun _ _ => rfl)
      case o1 =>
        intro a w hfr hG hd
        refine ⟨fun hw => ?_, fun hw => absurd hw (by simp [Region.wanted])⟩
        have s3 : a.tmps.getD 3 undef = .pointer (some ⟨xb, 0, none⟩) := hfr.at 3 (by kernel_rfl)
        refine op_yields (.pointer (some ⟨xb, 0, none⟩)) ?_ ?_ ?_
        · simp only [execOp, resolve, List.map_toArray, List.map_cons, List.map_nil, Act.eval, s3]; simp [go_sem, -Array.getD_eq_getD_getElem?, s3]
        · exact Below.refl _ _
        · exact (fun _ _ => rfl)
      case o2 =>
        intro a w hfr hG hd
        obtain ⟨d0, _⟩ := hd
        refine ⟨fun hw => ?_, fun hw => absurd hw (by simp [Region.wanted])⟩
        have s55 : a.tmps.getD 55 undef = .pointer (some ⟨xb, 0, none⟩) := (d0 rfl).now
        obtain ⟨z0, z1, z2, z3, z4⟩ := blk_cells5 hG.now.box
        refine op_yields (.int .i64 kk) ?_ ?_ ?_
        · simp only [execOp, resolve, List.map_toArray, List.map_cons, List.map_nil, Act.eval, s55]; simp [go_sem, -Array.getD_eq_getD_getElem?, s55, z0]
        · exact Below.refl _ _
        · exact (fun _ _ => rfl)
      case o3 =>
        intro a w hfr hG hd
        obtain ⟨d0, _⟩ := hd
        refine ⟨fun hw => ?_, fun hw => absurd hw (by simp [Region.wanted])⟩
        have s56 : a.tmps.getD 56 undef = .int .i64 kk := (d0 rfl).now
        refine op_calls2 (((HWD.out w).mono (fun e' w' hh => show e' = .returned (.string P1) ∧ Below w.heap.size w w' from ⟨hh.1, hh.2 ▸ Below.refl _ _⟩)).mono fun e' w' hh => ⟨_, hh.1, hh.2, (fun _ _ => rfl)⟩) ?_
        simp only [execOp, resolve, List.map_toArray, List.map_cons, List.map_nil, Act.eval, s56]; simp [go_sem, -Array.getD_eq_getD_getElem?, s56]
      case o4 =>
        intro a w hfr hG hd
        obtain ⟨d0, _⟩ := hd
        refine ⟨fun hw => ?_, fun hw => absurd hw (by simp [Region.wanted])⟩
        have s57 : a.tmps.getD 57 undef = .string P1 := (d0 rfl).now
        refine op_yields (.string (P1 ++ ⟨#[32, 98, 121, 32, 40]⟩)) ?_ ?_ ?_
        · simp only [execOp, resolve, List.map_toArray, List.map_cons, List.map_nil, Act.eval, s57]; simp [go_sem, -Array.getD_eq_getD_getElem?, s57, l1]
        · exact Below.refl _ _
        · exact (fun _ _ => rfl)
      case o5 =>
        intro a w hfr hG hd
        refine ⟨fun hw => ?_, fun hw => absurd hw (by simp [Region.wanted])⟩
        have s3 : a.tmps.getD 3 undef = .pointer (some ⟨xb, 0, none⟩) := hfr.at 3 (by kernel_rfl)
        refine op_yields (.pointer (some ⟨xb, 3, none⟩)) ?_ ?_ ?_
        · simp only [execOp, resolve, List.map_toArray, List.map_cons, List.map_nil, Act.eval, s3]; simp [go_sem, -Array.getD_eq_getD_getElem?, s3]
        · exact Below.refl _ _
        · exact (fun _ _ => rfl)
      case o6 =>
        intro a w hfr hG hd
        obtain ⟨d0, _⟩ := hd
        refine ⟨fun hw => ?_, fun hw => absurd hw (by simp [Region.wanted])⟩
        have s59 : a.tmps.getD 59 undef = .pointer (some ⟨xb, 3, none⟩) := (d0 rfl).now
        obtain ⟨z0, z1, z2, z3, z4⟩ := blk_cells5 hG.now.box
        refine op_yields (.slice A2 ns.length c2) ?_ ?_ ?_
        · simp only [execOp, resolve, List.map_toArray, List.map_cons, List.map_nil, Act.eval, s59]; simp [go_sem, -Array.getD_eq_getD_getElem?, s59, z3]
        · exact Below.refl _ _
        · exact (fun _ _ => rfl)
      case o7 =>
        intro a w hfr hG hd
        obtain ⟨d0, d1, _⟩ := hd
        refine ⟨fun hw => ?_, fun hw => absurd hw (by simp [Region.wanted])⟩
        have s60 : a.tmps.getD 60 undef = .slice A2 ns.length c2 := (d0 rfl).now
        refine op_calls2 ((HJN.out w hG.now).mono fun e' w' hh => ⟨_, hh.1, hh.2, (fun _ _ => rfl)⟩) ?_
        simp only [execOp, resolve, List.map_toArray, List.map_cons, List.map_nil, Act.eval, s60]; simp [go_sem, -Array.getD_eq_getD_getElem?, s60]
      case o8 =>
        intro a w hfr hG hd
        obtain ⟨d0, d1, _⟩ := hd
        refine ⟨fun hw => ?_, fun hw => absurd hw (by simp [Region.wanted])⟩
        have s58 : a.tmps.getD 58 undef = .string (P1 ++ ⟨#[32, 98, 121, 32, 40]⟩) := (d0 rfl).now
        have s61 : a.tmps.getD 61 undef = .string P2 := (d1 rfl).now
        refine op_yields (.string (P1 ++ ⟨#[32, 98, 121, 32, 40]⟩ ++ P2)) ?_ ?_ ?_
        · simp only [execOp, resolve, List.map_toArray, List.map_cons, List.map_nil, Act.eval, s58, s61]; simp [go_sem, -Array.getD_eq_getD_getElem?, s58, s61, l2]
        · exact Below.refl _ _
        · exact (fun _ _ => rfl)
      case o9 =>
        intro a w hfr hG hd
        obtain ⟨d0, _⟩ := hd
        refine ⟨fun hw => ?_, fun hw => absurd hw (by simp [Region.wanted])⟩
        have s62 : a.tmps.getD 62 undef = .string (P1 ++ ⟨#[32, 98, 121, 32, 40]⟩ ++ P2) := (d0 rfl).now
        refine op_yields (.string (P1 ++ ⟨#[32, 98, 121, 32, 40]⟩ ++ P2 ++ ⟨#[41, 32, 40]⟩)) ?_ ?_ ?_
        · simp only [execOp, resolve, List.map_toArray, List.map_cons, List.map_nil, Act.eval, s62]; simp [go_sem, -Array.getD_eq_getD_getElem?, s62, l3]
        · exact Below.refl _ _
        · exact (fun _ _ => rfl)
      case hG => exact fun w' hb => HA.out.below ((Below.refl _ _).drew.trans (hb.mono (by simp)))
      case hend =>
        intro vs w' hG hv
        have key : vs 0 = .pointer (some ⟨bb, 0, none⟩) ∧ vs 9 = .string (P1 ++ ⟨#[32, 98, 121, 32, 40]⟩ ++ P2 ++ ⟨#[41, 32, 40]⟩) := by
          obtain ⟨h0, _, _, _, _, _, _, _, _, h9, _⟩ := hv
          exact ⟨h0.now, h9.now⟩
        have HP2 := Lib.hid hG.now
        clear hv hG HA HJN HWD
        change wpList _ _ _ [_] (putAll vs 0 [_, _, _, _, _, _, _, _, _, _] _) _
        simp only [putAll, Act.put, key.1, key.2]
        clear key
        have hbg := HP2.out.big
        generalize P1 ++ ⟨#[32, 98, 121, 32, 40]⟩ ++ P2 ++ ⟨#[41, 32, 40]⟩ = PP at *
        go_simp
        go_wp2_with fail
        refine (bStringU bb bb l PP _ HP2.out.bld (by have := HLS.out; omega) (by omega)).mono ?_
        rintro e w5 ⟨rfl, hbl, hk⟩
        rw [HL2.out] at hbl
        have HF := Lib.hid (HP2.out.wrote hbl hk)
        clear hbl hk HP2
        go_wp2_with fail
        go_meet
        exact HF.out
    case rest =>
      clear HA
      have HA := Lib.hid hcut
      clear hcut HJN HWD
      obtain ⟨x0, x1, x2, x3, x4⟩ := blk_cells5 HA.out.box
      obtain ⟨y0, y1, y2, y3, y4⟩ := HC.out _ HA.out.bel
      go_wp2_with fail
      (with_reducible refine (HIA.out _ HA.out.bel HA.out.big HA.out.bld).mono ?_); rintro e w6 ⟨rfl, hbl, hk⟩
      have HA2 := Lib.hid (HA.out.wrote hbl hk)
      clear hbl hk HA HIA HC x0 x1 x2 x3 x4 y0 y1 y2 y3 y4
      have hbg := HA2.out.big
      go_wp2_with fail
      refine (bByteU bb bb (L2 ++ T) 41 41 rfl _ HA2.out.bld (by have := HL0.out; rw [List.length_append] at this; simp at this; rw [List.length_append]; omega) (by omega)).mono ?_
      rintro e w7 ⟨rfl, hbl, hk⟩
      have HF := Lib.hid (HA2.out.fin hbl hk)
      clear hbl hk HA2
      go_wp2_with fail
      go_end0
      exact ⟨rfl, HF.out⟩
theorem signX_size (k : Int) : (signX k).size ≤ 6 := by
  by_cases h : 3 ≤ k ∧ k ≤ 16
  · obtain ⟨h1, h2⟩ := h
    have : k = 3 ∨ k = 4 ∨ k = 5 ∨ k = 6 ∨ k = 7 ∨ k = 8 ∨ k = 9 ∨ k = 10 ∨ k = 11 ∨ k = 12 ∨ k = 13 ∨ k = 14 ∨ k = 15 ∨ k = 16 := by omega
    rcases this with rfl | rfl | rfl | rfl | rfl | rfl | rfl | rfl | rfl | rfl | rfl | rfl | rfl | rfl <;> decide
  · have e : signX k = ⟨#[]⟩ := by
      by_cases hs : signX k = ⟨#[]⟩
      · exact hs
      · exact absurd (sign_kinds hs) h
    rw [e]; decide
set_option maxHeartbeats 4000000 in
theorem write_two (wB : World) (bb d : Nat) (IH : WriteSaid wB bb d) (kk : Int) (A1 A2 : Option Addr) (ad : Addr) (c1 c2 c3 : Nat) (a b : XE) (l : List UInt8) (w : World) (hk1 : 3 ≤ kk) (hk2 : kk ≤ 16)
    (hK : Slc wB 5 (.slice (some ad) 2 c3) 2 (kcells [a, b])) (hoka : okX d a wB) (hokb : okX d b wB) (hta : a.pe.ty ≠ 0) (htb : b.pe.ty ≠ 0) (hfa : a.pe.fits) (hfb : b.pe.fits) (hB : wB.heap.size = bb) (hbel : Below wB.heap.size wB w) (hbig : bb + 1 ≤ w.heap.size) (ht : Tab wB)
    (hlen : (l ++ (40 :: (a.pe.text ++ (32 :: ((signX kk).data.toList ++ (32 :: (b.pe.text ++ [41]))))))).length ≤ 1000000000) (hbl : Bld w bb bb (Lib.byteCells l)) :
    Calls Tryz.prog 28 #[.pointer (some ⟨bb, 0, none⟩), .agg #[.int .i64 kk, .int .i64 0, .slice A1 0 c1, .slice A2 0 c2, .slice (some ad) 2 c3]] w fun e w' => e = .returned (.tuple #[]) ∧ BldAt w' bb bb (Lib.byteCells (l ++ (40 :: (a.pe.text ++ (32 :: ((signX kk).data.toList ++ (32 :: (b.pe.text ++ [41])))))))) ∧ BldKept bb bb w w' := by
  have HA : Hid (WrAt wB w bb w.heap.size [.int .i64 kk, .int .i64 0, .slice A1 0 c1, .slice A2 0 c2, .slice (some ad) 2 c3] l (w.alloc (.cells #[.int .i64 kk, .int .i64 0, .slice A1 0 c1, .slice A2 0 c2, .slice (some ad) 2 c3] 26))) := Lib.hid (wr_start (cs := [.int .i64 kk, .int .i64 0, .slice A1 0 c1, .slice A2 0 c2, .slice (some ad) 2 c3]) hB hbel hbig hbl)
  obtain ⟨SG, hSG⟩ : ∃ P, signX kk = P := ⟨_, rfl⟩
  have hsg := signX_size kk
  rw [hSG] at hsg
  have HSI := Lib.hid (fun V => sign_x kk V)
  rw [hSG] at HSI
  obtain ⟨Ta, hTa⟩ : ∃ T, a.pe.text = T := ⟨_, rfl⟩
  obtain ⟨Tb, hTb⟩ : ∃ T, b.pe.text = T := ⟨_, rfl⟩
  rw [hTa, hTb, hSG] at hlen ⊢
  obtain ⟨PP, hPP⟩ : ∃ P, (⟨#[32]⟩ : ByteArray) ++ SG ++ ⟨#[32]⟩ = P := ⟨_, rfl⟩
  have hps : PP.size ≤ 8 := by rw [← hPP, ByteArray.size_append, ByteArray.size_append]; show 1 + SG.size + 1 ≤ 8; omega
  obtain ⟨L2, hL2⟩ : ∃ L, l ++ [40] ++ Ta ++ PP.data.toList = L := ⟨_, rfl⟩
  have HTX := Lib.hid (show L2 ++ Tb ++ [41] = l ++ (40 :: (Ta ++ (32 :: (SG.data.toList ++ (32 :: (Tb ++ [41])))))) by
    rw [← hL2, ← hPP]
    rw [ByteArray.data_append, ByteArray.data_append, Array.toList_append, Array.toList_append]
    simp)
  have hl0 : (L2 ++ Tb ++ [41]).length ≤ 1000000000 := by rw [HTX.out]; exact hlen
  rw [← HTX.out]
  have hl2 : (l ++ [40] ++ Ta).length + PP.size ≤ 1000000000 := by
    have e : PP.size = PP.data.toList.length := (ba_len _).symm
    rw [e, ← List.length_append, hL2]
    rw [List.length_append, List.length_append] at hl0; omega
  have l1 : ¬ (9223372036854775807 < 1 + SG.size) := by omega
  have l2 : ¬ (9223372036854775807 < 1 + SG.size + 1) := by omega
  have HL0 := Lib.hid hl0
  have HL2 := Lib.hid hl2
  have HLE := Lib.hid hL2
  have HC := Lib.hid (fun (V : World) (hV : Below wB.heap.size wB V) => show V.cell? ad = some (.int .i64 a.kd) ∧ V.cell? ⟨ad.block, ad.off + 1, none⟩ = some (.int .i64 a.n) ∧ V.cell? ⟨ad.block, ad.off + 2, none⟩ = some a.mv ∧ V.cell? ⟨ad.block, ad.off + 3, none⟩ = some a.nv ∧ V.cell? ⟨ad.block, ad.off + 4, none⟩ = some a.kv from kidT_cells0 (kid_at hK hV))
  have HD := Lib.hid (fun (V : World) (hV : Below wB.heap.size wB V) => show V.cell? ⟨ad.block, ad.off + 5, none⟩ = some (.int .i64 b.kd) ∧ V.cell? ⟨ad.block, ad.off + 5 + 1, none⟩ = some (.int .i64 b.n) ∧ V.cell? ⟨ad.block, ad.off + 5 + 2, none⟩ = some b.mv ∧ V.cell? ⟨ad.block, ad.off + 5 + 3, none⟩ = some b.nv ∧ V.cell? ⟨ad.block, ad.off + 5 + 4, none⟩ = some b.kv from kidT_cells5 (kid_at hK hV))
  have HIA := Lib.hid (fun (V : World) (h1 : Below wB.heap.size wB V) (h2 : bb + 1 ≤ V.heap.size) (h3 : Bld V bb bb (Lib.byteCells (l ++ [40]))) => by
    have h4 := IH a (l ++ [40]) V hoka hta hfa h1 hB h2 ht (by rw [hTa]; rw [List.length_append] at hl2; simp only [List.length_append] at hl2 ⊢; omega) h3
    rw [hTa] at h4; exact h4)
  have HIB := Lib.hid (fun (V : World) (h1 : Below wB.heap.size wB V) (h2 : bb + 1 ≤ V.heap.size) (h3 : Bld V bb bb (Lib.byteCells L2)) => by
    have h4 := IH b L2 V hokb htb hfb h1 hB h2 ht (by rw [hTb]; rw [List.length_append] at hl0; omega) h3
    rw [hTb] at h4; exact h4)
  obtain ⟨B1, b1, B2, b2, B3, b3, v1, v2, v3⟩ := okX_forms hoka
  obtain ⟨D1, d1, D2, d2, D3, d3, u1, u2, u3⟩ := okX_forms hokb
  have hval : a.val = .agg #[.int .i64 a.kd, .int .i64 a.n, .slice B1 a.ms.length b1, .slice B2 a.ns.length b2, .slice B3 a.kids.length b3] := by unfold XE.val; rw [v1, v2, v3]
  have hvalb : b.val = .agg #[.int .i64 b.kd, .int .i64 b.n, .slice D1 b.ms.length d1, .slice D2 b.ns.length d2, .slice D3 b.kids.length d3] := by unfold XE.val; rw [u1, u2, u3]
  rw [v1, v2, v3] at HC
  rw [u1, u2, u3] at HD
  rw [hval] at HIA
  rw [hvalb] at HIB
  have q1 : (kk == 1) = false := by rw [beq_eq_false_iff_ne]; omega
  have q2 : (kk == 2) = false := by rw [beq_eq_false_iff_ne]; omega
  have q3 : (kk == 17) = false := by rw [beq_eq_false_iff_ne]; omega
  have q4 : (kk == 18) = false := by rw [beq_eq_false_iff_ne]; omega
  have q5 : (kk == 19) = false := by rw [beq_eq_false_iff_ne]; omega
  have q6 : (kk == 20) = false := by rw [beq_eq_false_iff_ne]; omega
  have HG := Lib.hid (show ∃ g, w.heap.size = g from ⟨_, rfl⟩)
  have HPE := Lib.hid hPP
  clear hbl hbel ht hlen hl0 hl2 hK hoka hokb hta htb hfa hfb hTa hTb hL2 v1 v2 v3 u1 u2 u3 hval hvalb hk1 hk2 IH HTX hPP hSG
  generalize a.ms.length = k1 at *
  generalize a.ns.length = k2 at *
  generalize a.kids.length = k3 at *
  generalize a.kd = akd at *
  generalize a.n = an at *
  generalize b.ms.length = j1 at *
  generalize b.ns.length = j2 at *
  generalize b.kids.length = j3 at *
  generalize b.kd = bkd at *
  generalize b.n = bn at *
  go_enter Tryz.func28, Tryz.ntmps28
  go_upto_region 1 with fail
  obtain ⟨xb, hxb⟩ := HG.out
  rw [hxb] at HA ⊢
  clear HG hxb
  generalize w.alloc (.cells #[.int .i64 kk, .int .i64 0, .slice A1 0 c1, .slice A2 0 c2, .slice (some ad) 2 c3] 26) = W1 at *
  obtain ⟨x0, x1, x2, x3, x4⟩ := blk_cells5 HA.out.box
  have hbg := HA.out.big
  go_wp2_with fail
  refine (bByteU bb bb l 40 40 rfl _ HA.out.bld (by have := HL2.out; simp only [List.length_append] at this; simp only [List.length_cons, List.length_nil] at this; omega) (by omega)).mono ?_
  rintro e w2 ⟨rfl, hbl, hk⟩
  have HA2 := Lib.hid (HA.out.wrote hbl hk)
  clear hbl hk HA x0 x1 x2 x3 x4 hbg
  obtain ⟨x0, x1, x2, x3, x4⟩ := blk_cells5 HA2.out.box
  obtain ⟨y0, y1, y2, y3, y4⟩ := HC.out _ HA2.out.bel
  go_wp2_with fail
  (with_reducible refine (HIA.out _ HA2.out.bel HA2.out.big HA2.out.bld).mono ?_); rintro e w3 ⟨rfl, hbl, hk⟩
  have HA3 := Lib.hid (HA2.out.wrote hbl hk)
  clear hbl hk HA2 HIA HC x0 x1 x2 x3 x4 y0 y1 y2 y3 y4
  obtain ⟨x0, x1, x2, x3, x4⟩ := blk_cells5 HA3.out.box
  have hbg := HA3.out.big
  go_wp2_with fail
  (with_reducible refine (HSI.out _).mono ?_); rintro e w' ⟨rfl, rfl⟩
  go_wp2_with fail
  rw [HPE.out]
  refine (bStringU bb bb _ PP _ HA3.out.bld (by have := HL2.out; omega) (by omega)).mono ?_
  rintro e w4 ⟨rfl, hbl, hk⟩
  rw [HLE.out] at hbl
  have HA4 := Lib.hid (HA3.out.wrote hbl hk)
  clear hbl hk HA3 x0 x1 x2 x3 x4 hbg
  obtain ⟨x0, x1, x2, x3, x4⟩ := blk_cells5 HA4.out.box
  obtain ⟨y0, y1, y2, y3, y4⟩ := HD.out _ HA4.out.bel
  go_wp2_with fail
  (with_reducible refine (HIB.out _ HA4.out.bel HA4.out.big HA4.out.bld).mono ?_); rintro e w5 ⟨rfl, hbl, hk⟩
  have HA5 := Lib.hid (HA4.out.wrote hbl hk)
  clear hbl hk HA4 HIB HD x0 x1 x2 x3 x4 y0 y1 y2 y3 y4
  have hbg := HA5.out.big
  go_wp2_with fail
  refine (bByteU bb bb (L2 ++ Tb) 41 41 rfl _ HA5.out.bld (by have := HL0.out; rw [List.length_append] at this; simp at this; rw [List.length_append]; omega) (by omega)).mono ?_
  rintro e w7 ⟨rfl, hbl, hk⟩
  have HF := Lib.hid (HA5.out.fin hbl hk)
  clear hbl hk HA5
  go_wp2_with fail
  go_end0
  exact ⟨rfl, HF.out⟩
theorem write_step (wB : World) (bb d : Nat) (IH : WriteSaid wB bb d) : WriteSaid wB bb (d + 1) := by
  intro x l w hok hty hfit hbel hB hbig ht hlen hbl
  obtain ⟨A1, c1, A2, c2, A3, c3, e1, e2, e3⟩ := okX_forms hok
  obtain ⟨kk, nn, mv, ms, nv, ns, kv, ks⟩ := x
  simp only [XE.mv, XE.nv, XE.kv, XE.ms, XE.ns, XE.kids] at e1 e2 e3
  subst e1; subst e2; subst e3
  have hI : I64 nn := by
    have h : (PE.mk kk nn ms ns (pesX ks)).fits := hfit
    unfold PE.fits at h; exact h.1
  have hfk : fitsP (pesX ks) := by
    have h : (PE.mk kk nn ms ns (pesX ks)).fits := hfit
    unfold PE.fits at h; exact h.2
  obtain ⟨o1, o2, o3, o4⟩ := hok
  simp only [XE.mv, XE.nv, XE.kv, XE.ms, XE.ns, XE.kids] at o1 o2 o3 o4
  have hlen' : (l ++ (PE.mk kk nn ms ns (pesX ks)).text).length ≤ 1000000000 := hlen
  show Calls Tryz.prog 28 #[.pointer (some ⟨bb, 0, none⟩), .agg #[.int .i64 kk, .int .i64 nn, .slice A1 ms.length c1, .slice A2 ns.length c2, .slice A3 ks.length c3]] w fun e w' => e = .returned (.tuple #[]) ∧ BldAt w' bb bb (Lib.byteCells (l ++ (PE.mk kk nn ms ns (pesX ks)).text)) ∧ BldKept bb bb w w'
  rcases xe_typed hty with ⟨rfl, rfl, rfl, rfl⟩ | ⟨rfl, hr, _, _, rfl, rfl⟩ | ⟨h1, h2, rfl, rfl, hn, a, rfl, ha⟩ | ⟨h1, h2, rfl, rfl, rfl, a, b, rfl, ha, hb⟩
  · rw [text_num] at hlen' ⊢
    exact write_num wB bb d 1 nn A1 A2 A3 c1 c2 c3 l w rfl hI hB hbel hbig ht hlen' hbl
  · rw [text_pick] at hlen' ⊢
    exact write_pick wB bb d 2 nn A1 A2 A3 c1 c2 c3 ms l w rfl hI hr o1 hB hbel hbig ht hlen' hbl
  · have e : pesX [a] = [a.pe] := rfl
    rw [e, text_one _ _ h1] at hlen' ⊢
    obtain ⟨A', c', ev, hsee, _⟩ := id o3
    obtain ⟨ad, hA, _⟩ := hsee.at_ (by simp)
    injection ev with e1 e2 e3
    rw [← e1] at hA
    subst hA
    exact write_one wB bb d IH kk A1 A2 ad c1 c2 c3 ns a l w h1 h2 hn o2 o3 (o4 a (by simp)) (by rw [ha]; decide) (by rw [e] at hfk; unfold fitsP at hfk; exact hfk.1) hB hbel hbig ht hlen' hbl
  · have e : pesX [a, b] = [a.pe, b.pe] := rfl
    rw [e, text_two _ _ h1 h2] at hlen' ⊢
    obtain ⟨A', c', ev, hsee, _⟩ := id o3
    obtain ⟨ad, hA, _⟩ := hsee.at_ (by simp)
    injection ev with e1 e2 e3
    rw [← e1] at hA
    subst hA
    have hf2 : a.pe.fits ∧ b.pe.fits := by rw [e] at hfk; unfold fitsP fitsP at hfk; exact ⟨hfk.1, hfk.2.1⟩
    exact write_two wB bb d IH kk A1 A2 ad c1 c2 c3 a b l w h1 h2 o3 (o4 a (by simp)) (o4 b (by simp)) ha hb hf2.1 hf2.2 hB hbel hbig ht hlen' hbl
theorem write_any (wB : World) (bb : Nat) : ∀ d, WriteSaid wB bb d
  | 0 => fun x l w h => h.elim
  | d + 1 => write_step wB bb d (write_any wB bb d)
end Go.Proofs.YtcaapbbbekggiaaGreatDoor
