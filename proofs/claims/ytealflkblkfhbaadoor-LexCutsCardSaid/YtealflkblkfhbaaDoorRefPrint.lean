/- klaxonref7: matchers, Aggs, Ops, Print. -/
import Derived.Test.YtealflkblkfhbaaDoorRefQuote
import Derived.Test.YtealflkblkfhbaaDoorGood
import Derived.Test.YtealflkblkfhbaaDoorFacts
import Derived.Deep.CutBlock
import Derived.Deep.DeepCutAuto
import Derived.Deep.RegionLaw
namespace Go.Proofs.YtealflkblkfhbaaDoor
open Go.ChangeShapes Go.WideShapes Go.ChangeAt Go.RowKit
set_option linter.unusedVariables false
set_option linter.unusedSimpArgs false
set_option maxRecDepth 100000
def signs5 : List ByteArray := [⟨#[]⟩, ⟨#[61]⟩, ⟨#[33, 61]⟩, ⟨#[94, 61]⟩, ⟨#[33, 94]⟩]
theorem signs5_at : ∀ q : Nat, 1 ≤ q → q ≤ 4 → signs5[q]? = some (signF q) := by
  intro q h1 h4
  match q, h1, h4 with
  | 1, _, _ => rfl
  | 2, _, _ => rfl
  | 3, _, _ => rfl
  | 4, _, _ => rfl
theorem signF_size (k : Int) : (signF k).size ≤ 2 := by
  unfold signF
  split
  · decide
  · split
    · decide
    · split
      · decide
      · split <;> decide
/-- A matcher that can be printed. -/
def MtcFits (m : Mtc) : Prop := m.1.size ≤ 24 ∧ m.2.1.size ≤ 24 ∧ 1 ≤ m.2.2 ∧ m.2.2 ≤ 4
theorem ba_len (a : ByteArray) : a.data.toList.length = a.size := by simp
theorem mtcL_len {m : Mtc} (h : MtcFits m) : (mtcL m).length ≤ 76 := by
  unfold mtcL
  rw [List.length_append, List.length_append, ba_len, ba_len]
  have h1 := h.1
  have h2 := quoteL_length_le m.2.1.data.toList
  rw [ba_len] at h2
  have h3 := h.2.1
  have h4 := signF_size m.2.2
  omega
theorem joinM_len : ∀ {l : List Mtc}, (∀ m ∈ l, MtcFits m) → (joinM l).length ≤ 77 * l.length
  | [], _ => by simp [joinM]
  | x :: l, h => by
    have h1 := mtcL_len (h x List.mem_cons_self)
    have h2 := joinM_len (l := l) (fun m hm => h m (List.mem_cons_of_mem _ hm))
    unfold joinM
    rw [List.length_append, List.length_cons]
    split
    · simp; omega
    · rw [List.length_cons]; omega
/-- Within matchers' loop. -/
structure MsAt (w0 : World) (gs : Nat) (A : Option Addr) (n : Nat) (l : List Mtc) (w : World) : Prop where
  sg : Blk w gs 9 (strs signs5)
  ms : Sees w w0.heap.size 3 A n (mtcs l)
  bel : Below w0.heap.size w0 w
theorem MsAt.below {w0 w w' : World} {gs : Nat} {A : Option Addr} {n : Nat} {l : List Mtc} (h : MsAt w0 gs A n l w) (hb : Below w.heap.size w w') : MsAt w0 gs A n l w' :=
  ⟨h.sg.below hb h.sg.lt, h.ms.below (hb.mono h.bel.size), h.bel.trans (hb.mono h.bel.size)⟩
set_option maxHeartbeats 4000000 in
theorem rmatchers_any (A : Option Addr) (n c : Nat) (l : List Mtc) (w : World) (h : Sees w w.heap.size 3 A n (mtcs l)) (hl6 : l.length ≤ 6) (hok : ∀ m ∈ l, MtcFits m) :
    Calls Tryd.prog 37 #[.slice A n c] w fun e w' => e = .returned (.string ⟨(123 :: (joinM l ++ [125])).toArray⟩) ∧ Below w.heap.size w w' := by
  have hln := h.mtc_len
  have HOK := Lib.hid hok
  have HLN := Lib.hid hln
  have hn6 : n ≤ 6 := by omega
  have HM0 := Lib.hid (show MsAt w w.heap.size A n l (w.alloc (.cells (strs signs5).toArray 9)) from ⟨Blk.mk (heap_alloc_new w _), h.alloc (Nat.le_refl _) _, (Below.refl _ _).alloc (Nat.le_refl _) _⟩)
  clear hok hln h hl6
  go_enter Tryd.func37, Tryd.ntmps37
  go_upto_region 3 with fail
  obtain ⟨W1, hW1⟩ : ∃ W, w.alloc (.cells (strs signs5).toArray 9) = W := ⟨_, rfl⟩
  rw [hW1] at HM0
  rw [show w.alloc (Obj.cells #[Value.string ⟨#[]⟩, Value.string ⟨#[61]⟩, Value.string ⟨#[33, 61]⟩, Value.string ⟨#[94, 61]⟩, Value.string ⟨#[33, 94]⟩] 9) = W1 from hW1]
  clear hW1
  obtain ⟨gs, hgs⟩ : ∃ g, w.heap.size = g := ⟨_, rfl⟩
  have HGS := Lib.hid hgs
  have HM1 := Lib.hid (show MsAt w gs A n l W1 from hgs ▸ HM0.out)
  rw [show (⟨w.heap.size, 0, none⟩ : Addr) = ⟨gs, 0, none⟩ by rw [hgs]]
  clear hgs HM0
  go_wp2_with fail
  go_loopg [4, 10] n (fun g x4 x10 wr => ∃ (k : Nat) (S : ByteArray), k + g = n ∧ x10 = .int .i64 k ∧ x4 = .string S ∧ Hid (S = ⟨(123 :: joinM (l.take k)).toArray⟩) ∧ MsAt w gs A n l wr)
  case atStart => exact ⟨0, ⟨#[123]⟩, by omega, rfl, rfl, Lib.hid rfl, HM1.out⟩
  case round =>
    obtain ⟨k, S, hkg, rfl, rfl, HS, hat⟩ := hrel
    have HM := Lib.hid hat
    clear hat HM1
    have hsz : S.size ≤ 463 := by
      have h1 := HS.out
      have h2 : S.size = 1 + (joinM (l.take k)).length := by rw [h1]; show (123 :: joinM (l.take k)).toArray.size = _; simp; omega
      have h3 := joinM_len (l := l.take k) (fun m hm => HOK.out m (List.mem_of_mem_take hm))
      rw [List.length_take] at h3
      omega
    cases gk with
    | zero =>
      have hk : ¬ (k : Int) < n := by omega
      have HE := Lib.hid (show S ++ ⟨#[125]⟩ = ⟨(123 :: (joinM l ++ [125])).toArray⟩ by
        rw [HS.out, List.take_of_length_le (by have := HLN.out; omega)]
        exact ba_cat (123 :: joinM l) [125])
      go_wp2_with fail
      go_ret
      exact ⟨by rw [← HE.out]; rfl, HM.out.bel⟩
    | succ g =>
      have hlt : k < n := by omega
      obtain ⟨ad, hkl, hA, e0, e1, e2⟩ := HM.out.ms.mtc hlt
      have hf := HOK.out _ (List.getElem_mem hkl)
      have HSN := Lib.hid (show joinM (l.take (k + 1)) = joinM (l.take k) ++ (if (l.take k).isEmpty then mtcL l[k] else 44 :: mtcL l[k]) by rw [List.take_succ_eq_append_getElem hkl]; exact joinM_snoc _ _)
      generalize l[k] = x at *
      obtain ⟨na, bb, kd⟩ := x
      obtain ⟨h1, h2, h3, h4⟩ := hf
      simp only at h1 h2 h3 h4 e0 e1 e2
      obtain ⟨q, rfl⟩ := Int.eq_ofNat_of_zero_le (show 0 ≤ kd by omega)
      have HAX := Lib.hid hA
      subst hA
      have hal := World.block_lt_of_cell? wr _ e0
      have HBX := Lib.hid (Blk.mk (heap_alloc_new wr (.cells #[.string na, .string bb, .int .i64 q] 74)) : Blk _ wr.heap.size 74 [.string na, .string bb, .int .i64 q])
      have HM2 := Lib.hid (HM.out.below ((Below.refl wr.heap.size wr).alloc (Nat.le_refl _) (.cells #[.string na, .string bb, .int .i64 q] 74)))
      go_upto_region 6 with fail
      clear e0 e1 e2 hal HAX HM
      generalize wr.alloc (.cells #[.string na, .string bb, .int .i64 q] 74) = W2 at *
      generalize wr.heap.size = bx at *
      obtain ⟨p, hpd⟩ : ∃ p : Bool, decide (0 < k) = p := ⟨_, rfl⟩
      go_upto_if 16 with fail
      have HPD := Lib.hid hpd
      clear hpd
      go_cut [4] from 17 to 18 (fun x4 wx => ∃ S2 : ByteArray, x4 = .string S2 ∧ Hid (S2 = ⟨(123 :: (joinM (l.take k) ++ (if (l.take k).isEmpty then [] else [44]))).toArray⟩) ∧ S2.size ≤ 464 ∧ wx = W2)
      case first =>
        cases p with
        | false =>
          have HE := Lib.hid (show (l.take k).isEmpty = true by rw [show k = 0 by have := of_decide_eq_false HPD.out; omega]; rfl)
          go_wp2_with fail
          go_meet
          exact ⟨S, rfl, Lib.hid (by rw [HS.out, HE.out]; simp), by omega, rfl⟩
        | true =>
          have HE := Lib.hid (show (l.take k).isEmpty = false by
            have hk0 := of_decide_eq_true HPD.out
            cases l with
            | nil => exact absurd hkl (by simp)
            | cons y l =>
              cases k with
              | zero => exact absurd hk0 (by omega)
              | succ k => rfl)
          have HS2 := Lib.hid (show S ++ ⟨#[44]⟩ = ⟨(123 :: (joinM (l.take k) ++ (if (l.take k).isEmpty then [] else [44]))).toArray⟩ by rw [HE.out, HS.out]; exact ba_cat _ [44])
          have hs2 : (S ++ (⟨#[44]⟩ : ByteArray)).size ≤ 464 := by rw [ByteArray.size_append]; show S.size + 1 ≤ 464; omega
          have HS2S := Lib.hid hs2
          clear hs2
          go_wp2_with fail
          go_meet
          exact ⟨_, rfl, Lib.hid HS2.out, HS2S.out, rfl⟩
      case rest =>
        obtain ⟨S2, rfl, HS2, hs2, hwc⟩ := hcut
        subst hwc
        have HSQ := Lib.hid (signs5_at q (by omega) (by omega))
        have hsg := signF_size (q : Int)
        have HQT := Lib.hid (fun V => rquote_any bb V (by omega))
        have hql := quoteL_length_le bb.data.toList
        rw [ba_len] at hql
        have HJ := Lib.hid (show ((S2 ++ na) ++ signF q) ++ ⟨(quoteL bb.data.toList).toArray⟩ = ⟨(123 :: joinM (l.take (k + 1))).toArray⟩ by
          rw [HSN.out, HS2.out]
          have e1 : na = ⟨na.data.toList.toArray⟩ := by cases na; simp
          have e2 : signF q = ⟨(signF q).data.toList.toArray⟩ := by generalize signF q = z; cases z; simp
          conv => lhs; rw [e1, e2]
          rw [ba_cat, ba_cat, ba_cat]
          unfold mtcL
          cases (l.take k).isEmpty <;> simp)
        generalize signF (q : Int) = sg at *
        have hqz : (⟨(quoteL bb.data.toList).toArray⟩ : ByteArray).size ≤ 50 := by show (quoteL bb.data.toList).toArray.size ≤ 50; simp; omega
        generalize (⟨(quoteL bb.data.toList).toArray⟩ : ByteArray) = Q at *
        have l1 : ¬ (9223372036854775807 < S2.size + na.size) := by omega
        have l2 : ¬ (9223372036854775807 < (S2 ++ na).size + sg.size) := by rw [ByteArray.size_append]; omega
        have l3 : ¬ (9223372036854775807 < ((S2 ++ na) ++ sg).size + Q.size) := by rw [ByteArray.size_append, ByteArray.size_append]; omega
        have l4 : ¬ (9223372036854775807 < S2.size + na.size + sg.size) := by omega
        have l5 : ¬ (9223372036854775807 < S2.size + na.size + sg.size + Q.size) := by omega
        have q0 : (0 : Int) ≤ q := by omega
        have q5 : (q : Int) < 5 := by omega
        go_upto_region 8 with fail
        refine wp_region_facts (R := fun a b => Below a.heap.size a b) (G := (fun W => MsAt w gs (some ad) n l W ∧ Blk W bx 74 [.string na, .string bb, .int .i64 q])) (V := fun i' u' W => match i' with | 0 => u' = .string S2 | 1 => u' = .pointer (some ⟨bx, 0, none⟩) | 2 => u' = .string na | 3 => u' = .string (S2 ++ na) | 4 => u' = .slice (some ⟨gs, 0, none⟩) 5 5 | 5 => u' = .pointer (some ⟨bx, 2, none⟩) | 6 => u' = .int .i64 q | 7 => u' = .pointer (some ⟨gs, q, none⟩) | 8 => u' = .string sg | 9 => u' = .string ((S2 ++ na) ++ sg) | 10 => u' = .pointer (some ⟨bx, 1, none⟩) | 11 => u' = .string bb | 12 => u' = .string Q | 13 => u' = .string (((S2 ++ na) ++ sg) ++ Q) | 14 => u' = .string (((S2 ++ na) ++ sg) ++ Q) | _ => True) (by kernel_rfl) (fun w => Below.refl _ _) (fun a b c h1 h2 => h1.trans (h2.mono h1.size)) (by kernel_rfl) (by kernel_rfl) ?hG ⟨?o0, ?o1, ?o2, ?o3, ?o4, ?o5, ?o6, ?o7, ?o8, ?o9, ?o10, ?o11, ?o12, ?o13, ?o14, trivial⟩ ?hend
        case o0 =>
          intro a w hfr hG hd
          refine ⟨fun hw => ?_, fun hw => absurd hw (by simp [Region.wanted])⟩
          have s4 : a.tmps.getD 4 undef = .string S2 := hfr.at 4 (by kernel_rfl)
          refine op_yields (.string S2) ?_ ?_ ?_
          · simp only [execOp, resolve, List.map_toArray, List.map_cons, List.map_nil, Act.eval, s4]; simp [go_sem, -Array.getD_eq_getD_getElem?, s4]
          · exact Below.refl _ _
          · exact (fun _ _ => rfl)
        case o1 =>
          intro a w hfr hG hd
          refine ⟨fun hw => ?_, fun hw => absurd hw (by simp [Region.wanted])⟩
          have s6 : a.tmps.getD 6 undef = .pointer (some ⟨bx, 0, none⟩) := hfr.at 6 (by kernel_rfl)
          refine op_yields (.pointer (some ⟨bx, 0, none⟩)) ?_ ?_ ?_
          · simp only [execOp, resolve, List.map_toArray, List.map_cons, List.map_nil, Act.eval, s6]; simp [go_sem, -Array.getD_eq_getD_getElem?, s6]
          · exact Below.refl _ _
          · exact (fun _ _ => rfl)
        case o2 =>
          intro a w hfr hG hd
          obtain ⟨d0, _⟩ := hd
          refine ⟨fun hw => ?_, fun hw => absurd hw (by simp [Region.wanted])⟩
          have s20 : a.tmps.getD 20 undef = .pointer (some ⟨bx, 0, none⟩) := (d0 rfl).now
          have c0 := hG.now.2.cell 0; simp only [List.getElem?_cons_zero, List.getElem?_cons_succ] at c0
          refine op_yields (.string na) ?_ ?_ ?_
          · simp only [execOp, resolve, List.map_toArray, List.map_cons, List.map_nil, Act.eval, s20]; simp [go_sem, -Array.getD_eq_getD_getElem?, s20, c0]
          · exact Below.refl _ _
          · exact (fun _ _ => rfl)
        case o3 =>
          intro a w hfr hG hd
          obtain ⟨d0, d1, _⟩ := hd
          refine ⟨fun hw => ?_, fun hw => absurd hw (by simp [Region.wanted])⟩
          have s19 : a.tmps.getD 19 undef = .string S2 := (d0 rfl).now
          have s21 : a.tmps.getD 21 undef = .string na := (d1 rfl).now
          refine op_yields (.string (S2 ++ na)) ?_ ?_ ?_
          · simp only [execOp, resolve, List.map_toArray, List.map_cons, List.map_nil, Act.eval, s19, s21]; simp [go_sem, -Array.getD_eq_getD_getElem?, s19, s21, l1]
          · exact Below.refl _ _
          · exact (fun _ _ => rfl)
        case o4 =>
          intro a w hfr hG hd
          refine ⟨fun hw => ?_, fun hw => absurd hw (by simp [Region.wanted])⟩
          have s3 : a.tmps.getD 3 undef = .slice (some ⟨gs, 0, none⟩) 5 5 := hfr.at 3 (by kernel_rfl)
          refine op_yields (.slice (some ⟨gs, 0, none⟩) 5 5) ?_ ?_ ?_
          · simp only [execOp, resolve, List.map_toArray, List.map_cons, List.map_nil, Act.eval, s3]; simp [go_sem, -Array.getD_eq_getD_getElem?, s3]
          · exact Below.refl _ _
          · exact (fun _ _ => rfl)
        case o5 =>
          intro a w hfr hG hd
          refine ⟨fun hw => ?_, fun hw => absurd hw (by simp [Region.wanted])⟩
          have s6 : a.tmps.getD 6 undef = .pointer (some ⟨bx, 0, none⟩) := hfr.at 6 (by kernel_rfl)
          refine op_yields (.pointer (some ⟨bx, 2, none⟩)) ?_ ?_ ?_
          · simp only [execOp, resolve, List.map_toArray, List.map_cons, List.map_nil, Act.eval, s6]; simp [go_sem, -Array.getD_eq_getD_getElem?, s6]
          · exact Below.refl _ _
          · exact (fun _ _ => rfl)
        case o6 =>
          intro a w hfr hG hd
          obtain ⟨d0, _⟩ := hd
          refine ⟨fun hw => ?_, fun hw => absurd hw (by simp [Region.wanted])⟩
          have s24 : a.tmps.getD 24 undef = .pointer (some ⟨bx, 2, none⟩) := (d0 rfl).now
          have c2 := hG.now.2.cell 2; simp only [List.getElem?_cons_zero, List.getElem?_cons_succ] at c2
          refine op_yields (.int .i64 q) ?_ ?_ ?_
          · simp only [execOp, resolve, List.map_toArray, List.map_cons, List.map_nil, Act.eval, s24]; simp [go_sem, -Array.getD_eq_getD_getElem?, s24, c2]
          · exact Below.refl _ _
          · exact (fun _ _ => rfl)
        case o7 =>
          intro a w hfr hG hd
          obtain ⟨d0, d1, _⟩ := hd
          refine ⟨fun hw => ?_, fun hw => absurd hw (by simp [Region.wanted])⟩
          have s23 : a.tmps.getD 23 undef = .slice (some ⟨gs, 0, none⟩) 5 5 := (d0 rfl).now
          have s25 : a.tmps.getD 25 undef = .int .i64 q := (d1 rfl).now
          refine op_yields (.pointer (some ⟨gs, q, none⟩)) ?_ ?_ ?_
          · simp only [execOp, resolve, List.map_toArray, List.map_cons, List.map_nil, Act.eval, s23, s25]; simp [go_sem, -Array.getD_eq_getD_getElem?, s23, s25, q0, q5]
          · exact Below.refl _ _
          · exact (fun _ _ => rfl)
        case o8 =>
          intro a w hfr hG hd
          obtain ⟨d0, _⟩ := hd
          refine ⟨fun hw => ?_, fun hw => absurd hw (by simp [Region.wanted])⟩
          have s26 : a.tmps.getD 26 undef = .pointer (some ⟨gs, q, none⟩) := (d0 rfl).now
          have cq : w.cell? ⟨gs, q, none⟩ = some (.string sg) := by rw [hG.now.1.sg.cell q]; unfold strs; rw [List.getElem?_map, HSQ.out]; rfl
          refine op_yields (.string sg) ?_ ?_ ?_
          · simp only [execOp, resolve, List.map_toArray, List.map_cons, List.map_nil, Act.eval, s26]; simp [go_sem, -Array.getD_eq_getD_getElem?, s26, cq]
          · exact Below.refl _ _
          · exact (fun _ _ => rfl)
        case o9 =>
          intro a w hfr hG hd
          obtain ⟨d0, d1, _⟩ := hd
          refine ⟨fun hw => ?_, fun hw => absurd hw (by simp [Region.wanted])⟩
          have s22 : a.tmps.getD 22 undef = .string (S2 ++ na) := (d0 rfl).now
          have s27 : a.tmps.getD 27 undef = .string sg := (d1 rfl).now
          refine op_yields (.string ((S2 ++ na) ++ sg)) ?_ ?_ ?_
          · simp only [execOp, resolve, List.map_toArray, List.map_cons, List.map_nil, Act.eval, s22, s27]; simp [go_sem, -Array.getD_eq_getD_getElem?, s22, s27, l2, l4]
          · exact Below.refl _ _
          · exact (fun _ _ => rfl)
        case o10 =>
          intro a w hfr hG hd
          refine ⟨fun hw => ?_, fun hw => absurd hw (by simp [Region.wanted])⟩
          have s6 : a.tmps.getD 6 undef = .pointer (some ⟨bx, 0, none⟩) := hfr.at 6 (by kernel_rfl)
          refine op_yields (.pointer (some ⟨bx, 1, none⟩)) ?_ ?_ ?_
          · simp only [execOp, resolve, List.map_toArray, List.map_cons, List.map_nil, Act.eval, s6]; simp [go_sem, -Array.getD_eq_getD_getElem?, s6]
          · exact Below.refl _ _
          · exact (fun _ _ => rfl)
        case o11 =>
          intro a w hfr hG hd
          obtain ⟨d0, _⟩ := hd
          refine ⟨fun hw => ?_, fun hw => absurd hw (by simp [Region.wanted])⟩
          have s29 : a.tmps.getD 29 undef = .pointer (some ⟨bx, 1, none⟩) := (d0 rfl).now
          have c1 := hG.now.2.cell 1; simp only [List.getElem?_cons_zero, List.getElem?_cons_succ] at c1
          refine op_yields (.string bb) ?_ ?_ ?_
          · simp only [execOp, resolve, List.map_toArray, List.map_cons, List.map_nil, Act.eval, s29]; simp [go_sem, -Array.getD_eq_getD_getElem?, s29, c1]
          · exact Below.refl _ _
          · exact (fun _ _ => rfl)
        case o12 =>
          intro a w hfr hG hd
          obtain ⟨d0, _⟩ := hd
          refine ⟨fun hw => ?_, fun hw => absurd hw (by simp [Region.wanted])⟩
          have s30 : a.tmps.getD 30 undef = .string bb := (d0 rfl).now
          refine op_calls2 ((HQT.out w).mono fun e' w' hh => ⟨_, hh.1, hh.2, (fun _ _ => rfl)⟩) ?_
          simp only [execOp, resolve, List.map_toArray, List.map_cons, List.map_nil, Act.eval, s30]; simp [go_sem, -Array.getD_eq_getD_getElem?, s30]
        case o13 =>
          intro a w hfr hG hd
          obtain ⟨d0, d1, _⟩ := hd
          refine ⟨fun hw => ?_, fun hw => absurd hw (by simp [Region.wanted])⟩
          have s28 : a.tmps.getD 28 undef = .string ((S2 ++ na) ++ sg) := (d0 rfl).now
          have s31 : a.tmps.getD 31 undef = .string Q := (d1 rfl).now
          refine op_yields (.string (((S2 ++ na) ++ sg) ++ Q)) ?_ ?_ ?_
          · simp only [execOp, resolve, List.map_toArray, List.map_cons, List.map_nil, Act.eval, s28, s31]; simp [go_sem, -Array.getD_eq_getD_getElem?, s28, s31, l3, l5]
          · exact Below.refl _ _
          · exact (fun _ _ => rfl)
        case o14 =>
          intro a w hfr hG hd
          obtain ⟨d0, d1, d2, d3, d4, d5, d6, d7, d8, d9, d10, d11, d12, d13, d14, d15, _⟩ := hd
          refine ⟨fun hw => ?_, fun hw => absurd hw (by simp [Region.wanted])⟩
          have s32 : a.tmps.getD 32 undef = .string (((S2 ++ na) ++ sg) ++ Q) := (d0 rfl).now
          refine op_yields (.string (((S2 ++ na) ++ sg) ++ Q)) ?_ ?_ ?_
          · simp only [execOp, resolve, List.map_toArray, List.map_cons, List.map_nil, Act.eval, s32]; simp [go_sem, -Array.getD_eq_getD_getElem?, s32]
          · exact Below.refl _ _
          · exact (fun _ _ => rfl)
        case hG => exact fun w' hb => ⟨HM2.out.below ((Below.refl _ _).drew.trans (hb.mono (by simp))), HBX.out.below ((Below.refl _ _).drew.trans (hb.mono (by simp))) HBX.out.lt⟩
        case hend =>
          intro vs w' hG hv
          have key : vs 13 = .string (((S2 ++ na) ++ sg) ++ Q) ∧ vs 14 = .string (((S2 ++ na) ++ sg) ++ Q) := by
            obtain ⟨_, _, _, _, _, _, _, _, _, _, _, _, _, h13, h14, _⟩ := hv
            exact ⟨h13.now, h14.now⟩
          have HM3 := Lib.hid hG.now.1
          clear hv hG HM2 HBX HQT
          rw [HJ.out] at key
          obtain ⟨S3, hS3⟩ : ∃ S3, (⟨(123 :: joinM (l.take (k + 1))).toArray⟩ : ByteArray) = S3 := ⟨_, rfl⟩
          rw [hS3] at key
          have HS3 := Lib.hid hS3.symm
          clear hS3 HJ
          simp only [putAll, Act.put, key.1, key.2]
          clear key
          go_wp2_with fail
          go_roundg g
          case measure => omega
          case rel => exact ⟨k + 1, S3, by omega, by go_num, rfl, HS3, HM3.out⟩
end Go.Proofs.YtealflkblkfhbaaDoor
