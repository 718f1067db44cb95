/- Law ExprOnly. -/
import Derived.Test.YtnkbpcenkbihpaaDoorPairX
import Derived.Test.YtnkbpcenkbihpaaDoorOnlyX
namespace Go.Proofs.YtnkbpcenkbihpaaDoor
open Go.ChangeShapes Go.WideShapes Go.ChangeAt Go.RowKit
set_option linter.unusedVariables false
set_option linter.unusedSimpArgs false
set_option maxRecDepth 100000
theorem conv_one (w : World) {B : Nat} {c : Int} {cb : UInt8} (h : Blk w B 5 [.int .u8 c]) (hc : c = cb.toNat) :
    (convert 48 9 (.slice (some ⟨B, 0, none⟩) 1 1)).run Tryd.prog w = .ok (.string ⟨#[cb]⟩) w := by
  have := run_convert_bytes_back w 48 9 5 ⟨B, 0, none⟩ 1 [cb] Tryd.underlying48 Tryd.underlying5 Tryd.underlying9 fun j hj => by
    have h0 : j = 0 := by simpa using hj
    subst h0
    have h1 := h.cell 0
    simp only [List.getElem?_cons_zero] at h1
    rw [hc] at h1
    exact h1
  exact this
theorem u8_in {a : Int} (h : (Lit.int .u8 a).wf = true) : 0 ≤ a ∧ a ≤ 255 := by
  simp [Lit.wf, IntKind.min, IntKind.max, IntKind.signed, IntKind.bits] at h; omega
theorem text_ne {x : PE} (h : Back x) : x.text ≠ [] := by
  intro e
  have h1 := h.parse
  rw [e] at h1
  have h2 : parseF [] = (zeroPE, 0, 1) := by kernel_rfl
  rw [h2] at h1
  injection h1 with _ h1
  injection h1 with _ h1
  exact absurd h1 (by decide)
set_option maxHeartbeats 8000000 in
theorem expr_only (k : KSet) (raw : ByteArray) (at_ c how : Int) (w : World) (o1 : k.ok w.heap.size w) (hraw : raw.size ≤ 9223372036854775807) (w2 : I64 at_) (w3 : 0 ≤ c ∧ c ≤ 255) (w4 : I64 how) (tab : Tab w) :
    Calls Tryd.prog 5 #[k.val, .string raw, .int .i64 at_, .int .u8 c, .int .i64 how] w fun e w' => e = .returned (.bool true) ∧ Below w.heap.size w w' := by
  have HT := Lib.hid tab
  have hb : Below w.heap.size w (w.alloc (.cells #[.slice k.A k.n k.c, .slice k.A2 k.n2 k.c2] 35)) := (Below.refl _ _).alloc (Nat.le_refl _) _
  have HK := Lib.hid (expr_any k (w.alloc (.cells #[.slice k.A k.n k.c, .slice k.A2 k.n2 k.c2] 35)) ((o1.below hb).up hb.size))
  have HB0 := Lib.hid hb
  have HKB : Hid (Blk (w.alloc (.cells #[.slice k.A k.n k.c, .slice k.A2 k.n2 k.c2] 35)) w.heap.size 35 [.slice k.A k.n k.c, .slice k.A2 k.n2 k.c2]) := Lib.hid (Blk.mk (heap_alloc_new w _))
  have HW2 := Lib.hid w2; have HW4 := Lib.hid w4
  obtain ⟨cb, rfl⟩ : ∃ cb : UInt8, c = cb.toNat := ⟨UInt8.ofNat c.toNat, by rw [UInt8.toNat_ofNat']; omega⟩
  clear hb o1 w2 w4 tab w3
  unfold KSet.val
  unfold KSet.val at HK
  go_enter Tryd.func5, Tryd.ntmps5
  go_upto_region 1 with fail
  obtain ⟨g5, hg5⟩ : ∃ g, w.heap.size = g := ⟨_, rfl⟩
  rw [hg5] at HKB ⊢
  clear hg5
  generalize w.alloc (.cells #[.slice k.A k.n k.c, .slice k.A2 k.n2 k.c2] 35) = W1 at *
  have q0 := HKB.out.cell 0; have q1 := HKB.out.cell 1
  simp only [List.getElem?_cons_zero, List.getElem?_cons_succ] at q0 q1
  go_wp2_with fail
  (with_reducible refine HK.out.mono ?_); rintro e w2 ⟨x, rfl, hk, hok, hb2⟩
  obtain ⟨A1, c1, A2, c2, A3, c3, e1, e2, e3⟩ := okX_forms hok
  obtain ⟨xk, xn, xmv, xms, xnv, xns, xkv, xks⟩ := x
  simp only [XE.mv, XE.nv, XE.kv, XE.ms, XE.ns, XE.kids] at e1 e2 e3
  subst e1; subst e2; subst e3
  have HBX := Lib.hid (keep_back hk)
  have HB2 := Lib.hid (HB0.out.trans (hb2.mono HB0.out.size))
  have HPX := Lib.hid (show Calls Tryd.prog 12 #[.agg #[.int .i64 xk, .int .i64 xn, .slice A1 xms.length c1, .slice A2 xns.length c2, .slice A3 xks.length c3]] w2 fun e w' => e = .returned (.string ⟨((XE.mk xk xn (.slice A1 xms.length c1) xms (.slice A2 xns.length c2) xns (.slice A3 xks.length c3) xks)).pe.text.toArray⟩) ∧ Below w2.heap.size w2 w' by
    have h := print_x 5 (by decide) _ w2 HBX.out.small HBX.out.fits (tab_of HT.out HB2.out) hok
    rw [HBX.out.print] at h; exact h)
  clear hk hok hb2 HK HKB q0 q1 HB0
  unfold XE.val
  simp only [XE.kd, XE.n, XE.mv, XE.nv, XE.kv]
  have hsx : ((⟨((XE.mk xk xn (.slice A1 xms.length c1) xms (.slice A2 xns.length c2) xns (.slice A3 xks.length c3) xks)).pe.text.toArray⟩ : ByteArray)).data.toList = ((XE.mk xk xn (.slice A1 xms.length c1) xms (.slice A2 xns.length c2) xns (.slice A3 xks.length c3) xks)).pe.text := rfl
  obtain ⟨sx, hx⟩ : ∃ s : ByteArray, (⟨((XE.mk xk xn (.slice A1 xms.length c1) xms (.slice A2 xns.length c2) xns (.slice A3 xks.length c3) xks)).pe.text.toArray⟩ : ByteArray) = s := ⟨_, rfl⟩
  rw [hx] at hsx HPX
  have hsne : sx.toList.isEmpty = false := by
    rw [ByteArray.toList_eq, hsx]
    have h := text_ne HBX.out
    revert h
    cases ((XE.mk xk xn (.slice A1 xms.length c1) xms (.slice A2 xns.length c2) xns (.slice A3 xks.length c3) xks)).pe.text with
    | nil => exact fun h => absurd rfl h
    | cons a l => exact fun _ => rfl
  have hsz : sx.size ≤ 22400 := by have h := ba_len sx; rw [hsx] at h; have := HBX.out.text; omega
  have hpos : 0 < sx.size := by
    have h := ba_len sx
    rw [hsx] at h
    have h2 := List.length_pos_iff.2 (text_ne HBX.out)
    omega
  clear hsx hx HBX
  go_wp2_with fail
  (with_reducible refine HPX.out.mono ?_); rintro e w3 ⟨rfl, hb3⟩
  have HB3 := Lib.hid (HB2.out.trans (hb3.mono HB2.out.size))
  clear hb3 HPX HB2
  have HW1 := Lib.hid (fun V => within_any at_ 0 ((sx.size : Int) - 1) V HW2.out (by omega) (by omega) (by omega))
  obtain ⟨hi1, hi2⟩ := nWithin_in at_ (lo := 0) (hi := (sx.size : Int) - 1) (by omega)
  obtain ⟨i, hi⟩ : ∃ i : Nat, nWithin at_ 0 ((sx.size : Int) - 1) = (i : Int) := ⟨(nWithin at_ 0 ((sx.size : Int) - 1)).toNat, by omega⟩
  rw [hi] at HW1 hi1 hi2
  have HW5 := Lib.hid (fun V => within_any how 0 4 V HW4.out (by omega) (by omega) (by omega))
  obtain ⟨hm1, hm2⟩ := nWithin_in how (lo := 0) (hi := 4) (by omega)
  obtain ⟨m, hm⟩ : ∃ m, nWithin how 0 4 = m := ⟨_, rfl⟩
  rw [hm] at HW5 hm1 hm2
  clear hi hm HW2 HW4
  go_wp2_with fail
  (with_reducible refine (HW1.out _).mono ?_); rintro e w' ⟨rfl, rfl⟩
  go_wp2_with fail
  (with_reducible refine (HW5.out _).mono ?_); rintro e w' ⟨rfl, rfl⟩
  clear HW1 HW5
  go_upto_block 0 with fail
  have hi0 : (i : Int) < sx.size := by omega
  have hA : ¬ (sx.size < i) := by omega
  have hB : ¬ ((sx.size : Int) < (i : Int) + 1) := by omega
  have hB0 : (0 : Int) ≤ (i : Int) + 1 := by omega
  have hw1 : IntKind.i64.wrap ((i : Int) + 1) = (i : Int) + 1 := IntWalk.i64_in _ (by omega)
  have hl1 : min i sx.size ≤ 9223372036854775806 := by omega
  have hl2 : min i sx.size + 1 + (sx.size - (i + 1)) ≤ 9223372036854775807 := by omega
  have hl3 : min i sx.size + (sx.size - (i + 1)) ≤ 9223372036854775807 := by omega
  have hl4 : min i sx.size + 1 + (sx.size - i) ≤ 9223372036854775807 := by omega
  have hc1 : (⟨#[cb]⟩ : ByteArray).size = 1 := rfl
  have hz8 : (sx.extract 0 i ++ ⟨#[cb]⟩ ++ sx.extract (i + 1) sx.size).size ≤ 22600 := by rw [ByteArray.size_append, ByteArray.size_append, ByteArray.size_extract, ByteArray.size_extract, hc1]; omega
  have hz10 : (sx.extract 0 i ++ sx.extract (i + 1) sx.size).size ≤ 22600 := by rw [ByteArray.size_append, ByteArray.size_extract, ByteArray.size_extract]; omega
  have hz12 : (sx.extract 0 i ++ ⟨#[cb]⟩ ++ sx.extract i sx.size).size ≤ 22600 := by rw [ByteArray.size_append, ByteArray.size_append, ByteArray.size_extract, ByteArray.size_extract, hc1]; omega
  have hz3 : (sx.extract 0 i).size ≤ 22600 := by rw [ByteArray.size_extract]; omega
  have hz6 : (raw.extract 0 (min (raw.size : Int) 60).toNat).size ≤ 22600 := by rw [ByteArray.size_extract]; omega
  go_cut [11] from 31 to 77 (fun y11 wx => ∃ s : ByteArray, y11 = .string s ∧ s.size ≤ 22600 ∧ Below w.heap.size w wx)
  case first =>
    have hmm : m = 0 ∨ m = 1 ∨ m = 2 ∨ m = 3 ∨ m = 4 := by omega
    clear hm1 hm2
    rcases hmm with rfl | rfl | rfl | rfl | rfl
    · go_upto_region 8 with fail
      refine wp_region_facts (R := fun a b => Below a.heap.size a b) (G := (fun W => Below w.heap.size w W)) (V := fun i' u' W => match i' with | 0 => u' = .string sx | 1 => u' = .int .i64 i | 2 => u' = .string (sx.extract 0 i) | 3 => u' = .int .u8 (cb.toNat : Int) | 4 => ∃ B, u' = .slice (some ⟨B, 0, none⟩) 1 1 ∧ Blk W B 5 [.int .u8 (cb.toNat : Int)] | 5 => u' = .string ⟨#[cb]⟩ | 6 => u' = .string (sx.extract 0 i ++ ⟨#[cb]⟩) | 7 => u' = .string sx | 8 => u' = .int .i64 i | 9 => u' = .int .i64 (i + 1) | 10 => u' = .string (sx.extract (i + 1) sx.size) | 11 => u' = .string (sx.extract 0 i ++ ⟨#[cb]⟩ ++ sx.extract (i + 1) sx.size) | 12 => u' = .string (sx.extract 0 i ++ ⟨#[cb]⟩ ++ sx.extract (i + 1) sx.size) | _ => True) (by kernel_rfl) (fun w => Below.refl _ _) (fun a b c h1 h2 => h1.trans (h2.mono h1.size)) (by kernel_rfl) (by kernel_rfl) ?hG ⟨?o0, ?o1, ?o2, ?o3, ?o4, ?o5, ?o6, ?o7, ?o8, ?o9, ?o10, ?o11, ?o12, trivial⟩ ?hend
      case o0 =>
        intro a w hfr hG hd
        refine ⟨fun hw => ?_, fun hw => absurd hw (by simp [Region.wanted])⟩
        have s11 : a.tmps.getD 11 undef = .string sx := hfr.at 11 (by kernel_rfl)
        refine op_yields (.string sx) ?_ ?_ ?_
        · simp only [execOp, resolve, List.map_toArray, List.map_cons, List.map_nil, Act.eval, s11]; simp [go_sem, -Array.getD_eq_getD_getElem?, s11]
        · exact Below.refl _ _
        · exact (fun _ _ => rfl)
      case o1 =>
        intro a w hfr hG hd
        refine ⟨fun hw => ?_, fun hw => absurd hw (by simp [Region.wanted])⟩
        have s12 : a.tmps.getD 12 undef = .int .i64 i := hfr.at 12 (by kernel_rfl)
        refine op_yields (.int .i64 i) ?_ ?_ ?_
        · simp only [execOp, resolve, List.map_toArray, List.map_cons, List.map_nil, Act.eval, s12]; simp [go_sem, -Array.getD_eq_getD_getElem?, s12]
        · exact Below.refl _ _
        · exact (fun _ _ => rfl)
      case o2 =>
        intro a w hfr hG hd
        obtain ⟨d0, d1, _⟩ := hd
        refine ⟨fun hw => ?_, fun hw => absurd hw (by simp [Region.wanted])⟩
        have s38 : a.tmps.getD 38 undef = .string sx := (d0 rfl).now
        have s39 : a.tmps.getD 39 undef = .int .i64 i := (d1 rfl).now
        refine op_yields (.string (sx.extract 0 i)) ?_ ?_ ?_
        · simp only [execOp, resolve, List.map_toArray, List.map_cons, List.map_nil, Act.eval, s38, s39]; simp [go_sem, -Array.getD_eq_getD_getElem?, s38, s39, hA]
        · exact Below.refl _ _
        · exact (fun _ _ => rfl)
      case o3 =>
        intro a w hfr hG hd
        refine ⟨fun hw => ?_, fun hw => absurd hw (by simp [Region.wanted])⟩
        have s3 : a.tmps.getD 3 undef = .int .u8 (cb.toNat : Int) := hfr.at 3 (by kernel_rfl)
        refine op_yields (.int .u8 (cb.toNat : Int)) ?_ ?_ ?_
        · simp only [execOp, resolve, List.map_toArray, List.map_cons, List.map_nil, Act.eval, s3]; simp [go_sem, -Array.getD_eq_getD_getElem?, s3]
        · exact Below.refl _ _
        · exact (fun _ _ => rfl)
      case o4 =>
        intro a w hfr hG hd
        obtain ⟨d0, _⟩ := hd
        refine ⟨fun hw => ?_, fun hw => absurd hw (by simp [Region.wanted])⟩
        have s41 : a.tmps.getD 41 undef = .int .u8 (cb.toNat : Int) := (d0 rfl).now
        refine op_makes (.slice (some ⟨w.heap.size, 0, none⟩) 1 1) (w' := w.alloc (.cells #[.int .u8 (cb.toNat : Int)] 5)) ?_ ?_ ?_
        · simp only [execOp, resolve, List.map_toArray, List.map_cons, List.map_nil, Act.eval, s41]; simp [go_sem, -Array.getD_eq_getD_getElem?, s41]
        · exact (Below.refl _ _).alloc (Nat.le_refl _) _
        · exact fun W' hW' => ⟨_, rfl, (Blk.mk (heap_alloc_new _ _) : Blk _ _ _ _).below hW' (by simp)⟩
      case o5 =>
        intro a w hfr hG hd
        obtain ⟨d0, _⟩ := hd
        refine ⟨fun hw => ?_, fun hw => absurd hw (by simp [Region.wanted])⟩
        obtain ⟨B, s42, _⟩ := (d0 rfl).now
        have f42 : Hold (fun a b => Below a.heap.size a b) (fun W => Blk W B 5 [.int .u8 (cb.toNat : Int)]) w := fun w2 h2 => by obtain ⟨_, e1, e2⟩ := d0 rfl w2 h2; have e3 := s42.symm.trans e1; simp only [Value.slice.injEq, Option.some.injEq, Addr.mk.injEq, Value.pointer.injEq, and_true, true_and] at e3; subst e3; exact e2
        have s42 : a.tmps.getD 42 undef = .slice (some ⟨B, 0, none⟩) 1 1 := s42
        refine op_yields (.string ⟨#[cb]⟩) ?_ ?_ ?_
        · have hcv := conv_one w f42.now rfl; simp only [execOp, resolve, List.map_toArray, List.map_cons, List.map_nil, Act.eval, s42]; simp [go_sem, hcv]
        · exact Below.refl _ _
        · exact (fun _ _ => rfl)
      case o6 =>
        intro a w hfr hG hd
        obtain ⟨d0, d1, _⟩ := hd
        refine ⟨fun hw => ?_, fun hw => absurd hw (by simp [Region.wanted])⟩
        have s40 : a.tmps.getD 40 undef = .string (sx.extract 0 i) := (d0 rfl).now
        have s43 : a.tmps.getD 43 undef = .string ⟨#[cb]⟩ := (d1 rfl).now
        refine op_yields (.string (sx.extract 0 i ++ ⟨#[cb]⟩)) ?_ ?_ ?_
        · simp only [execOp, resolve, List.map_toArray, List.map_cons, List.map_nil, Act.eval, s40, s43]; simp [go_sem, -Array.getD_eq_getD_getElem?, s40, s43, hl1, hl2, hl3, hl4]
        · exact Below.refl _ _
        · exact (fun _ _ => rfl)
      case o7 =>
        intro a w hfr hG hd
        refine ⟨fun hw => ?_, fun hw => absurd hw (by simp [Region.wanted])⟩
        have s11 : a.tmps.getD 11 undef = .string sx := hfr.at 11 (by kernel_rfl)
        refine op_yields (.string sx) ?_ ?_ ?_
        · simp only [execOp, resolve, List.map_toArray, List.map_cons, List.map_nil, Act.eval, s11]; simp [go_sem, -Array.getD_eq_getD_getElem?, s11]
        · exact Below.refl _ _
        · exact (fun _ _ => rfl)
      case o8 =>
        intro a w hfr hG hd
        refine ⟨fun hw => ?_, fun hw => absurd hw (by simp [Region.wanted])⟩
        have s12 : a.tmps.getD 12 undef = .int .i64 i := hfr.at 12 (by kernel_rfl)
        refine op_yields (.int .i64 i) ?_ ?_ ?_
        · simp only [execOp, resolve, List.map_toArray, List.map_cons, List.map_nil, Act.eval, s12]; simp [go_sem, -Array.getD_eq_getD_getElem?, s12]
        · exact Below.refl _ _
        · exact (fun _ _ => rfl)
      case o9 =>
        intro a w hfr hG hd
        obtain ⟨d0, _⟩ := hd
        refine ⟨fun hw => ?_, fun hw => absurd hw (by simp [Region.wanted])⟩
        have s46 : a.tmps.getD 46 undef = .int .i64 i := (d0 rfl).now
        refine op_yields (.int .i64 (i + 1)) ?_ ?_ ?_
        · simp only [execOp, resolve, List.map_toArray, List.map_cons, List.map_nil, Act.eval, s46]; simp [go_sem, -Array.getD_eq_getD_getElem?, s46, hw1]
        · exact Below.refl _ _
        · exact (fun _ _ => rfl)
      case o10 =>
        intro a w hfr hG hd
        obtain ⟨d0, d1, _⟩ := hd
        refine ⟨fun hw => ?_, fun hw => absurd hw (by simp [Region.wanted])⟩
        have s45 : a.tmps.getD 45 undef = .string sx := (d0 rfl).now
        have s47 : a.tmps.getD 47 undef = .int .i64 (i + 1) := (d1 rfl).now
        refine op_yields (.string (sx.extract (i + 1) sx.size)) ?_ ?_ ?_
        · simp only [execOp, resolve, List.map_toArray, List.map_cons, List.map_nil, Act.eval, s45, s47]; simp [go_sem, -Array.getD_eq_getD_getElem?, s45, s47, hB0, hB]
        · exact Below.refl _ _
        · exact (fun _ _ => rfl)
      case o11 =>
        intro a w hfr hG hd
        obtain ⟨d0, d1, _⟩ := hd
        refine ⟨fun hw => ?_, fun hw => absurd hw (by simp [Region.wanted])⟩
        have s44 : a.tmps.getD 44 undef = .string (sx.extract 0 i ++ ⟨#[cb]⟩) := (d0 rfl).now
        have s48 : a.tmps.getD 48 undef = .string (sx.extract (i + 1) sx.size) := (d1 rfl).now
        refine op_yields (.string (sx.extract 0 i ++ ⟨#[cb]⟩ ++ sx.extract (i + 1) sx.size)) ?_ ?_ ?_
        · simp only [execOp, resolve, List.map_toArray, List.map_cons, List.map_nil, Act.eval, s44, s48]; simp [go_sem, -Array.getD_eq_getD_getElem?, s44, s48, hl1, hl2, hl3, hl4]
        · exact Below.refl _ _
        · exact (fun _ _ => rfl)
      case o12 =>
        intro a w hfr hG hd
        obtain ⟨d0, d1, d2, d3, d4, d5, d6, d7, d8, d9, d10, d11, d12, _⟩ := hd
        refine ⟨fun hw => ?_, fun hw => absurd hw (by simp [Region.wanted])⟩
        have s49 : a.tmps.getD 49 undef = .string (sx.extract 0 i ++ ⟨#[cb]⟩ ++ sx.extract (i + 1) sx.size) := (d0 rfl).now
        refine op_yields (.string (sx.extract 0 i ++ ⟨#[cb]⟩ ++ sx.extract (i + 1) sx.size)) ?_ ?_ ?_
        · simp only [execOp, resolve, List.map_toArray, List.map_cons, List.map_nil, Act.eval, s49]; simp [go_sem, -Array.getD_eq_getD_getElem?, s49]
        · exact Below.refl _ _
        · exact (fun _ _ => rfl)
      case hG => exact fun w' hb => HB3.out.trans (((Below.refl _ _).drew.trans (hb.mono (by simp))).mono HB3.out.size)
      case hend =>
        intro vs w' hG hv
        have key : vs 12 = .string (sx.extract 0 i ++ ⟨#[cb]⟩ ++ sx.extract (i + 1) sx.size) := by
          obtain ⟨_, _, _, _, _, _, _, _, _, _, _, _, h12, _⟩ := hv
          exact h12.now
        have HB4 := Lib.hid hG.now
        clear hv hG
        simp only [putAll, Act.put, key]
        clear key
        go_simp
        go_wp2_with fail
        go_meet
        exact ⟨_, rfl, hz8, HB4.out⟩
    · go_upto_region 10 with fail
      refine wp_region_facts (R := fun a b => Below a.heap.size a b) (G := (fun W => Below w.heap.size w W)) (V := fun i' u' W => match i' with | 0 => u' = .string sx | 1 => u' = .int .i64 i | 2 => u' = .string (sx.extract 0 i) | 3 => u' = .string sx | 4 => u' = .int .i64 i | 5 => u' = .int .i64 (i + 1) | 6 => u' = .string (sx.extract (i + 1) sx.size) | 7 => u' = .string (sx.extract 0 i ++ sx.extract (i + 1) sx.size) | 8 => u' = .string (sx.extract 0 i ++ sx.extract (i + 1) sx.size) | _ => True) (by kernel_rfl) (fun w => Below.refl _ _) (fun a b c h1 h2 => h1.trans (h2.mono h1.size)) (by kernel_rfl) (by kernel_rfl) ?hG ⟨?o0, ?o1, ?o2, ?o3, ?o4, ?o5, ?o6, ?o7, ?o8, trivial⟩ ?hend
      case o0 =>
        intro a w hfr hG hd
        refine ⟨fun hw => ?_, fun hw => absurd hw (by simp [Region.wanted])⟩
        have s11 : a.tmps.getD 11 undef = .string sx := hfr.at 11 (by kernel_rfl)
        refine op_yields (.string sx) ?_ ?_ ?_
        · simp only [execOp, resolve, List.map_toArray, List.map_cons, List.map_nil, Act.eval, s11]; simp [go_sem, -Array.getD_eq_getD_getElem?, s11]
        · exact Below.refl _ _
        · exact (fun _ _ => rfl)
      case o1 =>
        intro a w hfr hG hd
        refine ⟨fun hw => ?_, fun hw => absurd hw (by simp [Region.wanted])⟩
        have s12 : a.tmps.getD 12 undef = .int .i64 i := hfr.at 12 (by kernel_rfl)
        refine op_yields (.int .i64 i) ?_ ?_ ?_
        · simp only [execOp, resolve, List.map_toArray, List.map_cons, List.map_nil, Act.eval, s12]; simp [go_sem, -Array.getD_eq_getD_getElem?, s12]
        · exact Below.refl _ _
        · exact (fun _ _ => rfl)
      case o2 =>
        intro a w hfr hG hd
        obtain ⟨d0, d1, _⟩ := hd
        refine ⟨fun hw => ?_, fun hw => absurd hw (by simp [Region.wanted])⟩
        have s52 : a.tmps.getD 52 undef = .string sx := (d0 rfl).now
        have s53 : a.tmps.getD 53 undef = .int .i64 i := (d1 rfl).now
        refine op_yields (.string (sx.extract 0 i)) ?_ ?_ ?_
        · simp only [execOp, resolve, List.map_toArray, List.map_cons, List.map_nil, Act.eval, s52, s53]; simp [go_sem, -Array.getD_eq_getD_getElem?, s52, s53, hA]
        · exact Below.refl _ _
        · exact (fun _ _ => rfl)
      case o3 =>
        intro a w hfr hG hd
        refine ⟨fun hw => ?_, fun hw => absurd hw (by simp [Region.wanted])⟩
        have s11 : a.tmps.getD 11 undef = .string sx := hfr.at 11 (by kernel_rfl)
        refine op_yields (.string sx) ?_ ?_ ?_
        · simp only [execOp, resolve, List.map_toArray, List.map_cons, List.map_nil, Act.eval, s11]; simp [go_sem, -Array.getD_eq_getD_getElem?, s11]
        · exact Below.refl _ _
        · exact (fun _ _ => rfl)
      case o4 =>
        intro a w hfr hG hd
        refine ⟨fun hw => ?_, fun hw => absurd hw (by simp [Region.wanted])⟩
        have s12 : a.tmps.getD 12 undef = .int .i64 i := hfr.at 12 (by kernel_rfl)
        refine op_yields (.int .i64 i) ?_ ?_ ?_
        · simp only [execOp, resolve, List.map_toArray, List.map_cons, List.map_nil, Act.eval, s12]; simp [go_sem, -Array.getD_eq_getD_getElem?, s12]
        · exact Below.refl _ _
        · exact (fun _ _ => rfl)
      case o5 =>
        intro a w hfr hG hd
        obtain ⟨d0, _⟩ := hd
        refine ⟨fun hw => ?_, fun hw => absurd hw (by simp [Region.wanted])⟩
        have s56 : a.tmps.getD 56 undef = .int .i64 i := (d0 rfl).now
        refine op_yields (.int .i64 (i + 1)) ?_ ?_ ?_
        · simp only [execOp, resolve, List.map_toArray, List.map_cons, List.map_nil, Act.eval, s56]; simp [go_sem, -Array.getD_eq_getD_getElem?, s56, hw1]
        · exact Below.refl _ _
        · exact (fun _ _ => rfl)
      case o6 =>
        intro a w hfr hG hd
        obtain ⟨d0, d1, _⟩ := hd
        refine ⟨fun hw => ?_, fun hw => absurd hw (by simp [Region.wanted])⟩
        have s55 : a.tmps.getD 55 undef = .string sx := (d0 rfl).now
        have s57 : a.tmps.getD 57 undef = .int .i64 (i + 1) := (d1 rfl).now
        refine op_yields (.string (sx.extract (i + 1) sx.size)) ?_ ?_ ?_
        · simp only [execOp, resolve, List.map_toArray, List.map_cons, List.map_nil, Act.eval, s55, s57]; simp [go_sem, -Array.getD_eq_getD_getElem?, s55, s57, hB0, hB]
        · exact Below.refl _ _
        · exact (fun _ _ => rfl)
      case o7 =>
        intro a w hfr hG hd
        obtain ⟨d0, d1, _⟩ := hd
        refine ⟨fun hw => ?_, fun hw => absurd hw (by simp [Region.wanted])⟩
        have s54 : a.tmps.getD 54 undef = .string (sx.extract 0 i) := (d0 rfl).now
        have s58 : a.tmps.getD 58 undef = .string (sx.extract (i + 1) sx.size) := (d1 rfl).now
        refine op_yields (.string (sx.extract 0 i ++ sx.extract (i + 1) sx.size)) ?_ ?_ ?_
        · simp only [execOp, resolve, List.map_toArray, List.map_cons, List.map_nil, Act.eval, s54, s58]; simp [go_sem, -Array.getD_eq_getD_getElem?, s54, s58, hl1, hl2, hl3, hl4]
        · exact Below.refl _ _
        · exact (fun _ _ => rfl)
      case o8 =>
        intro a w hfr hG hd
        obtain ⟨d0, d1, d2, d3, d4, d5, d6, d7, d8, _⟩ := hd
        refine ⟨fun hw => ?_, fun hw => absurd hw (by simp [Region.wanted])⟩
        have s59 : a.tmps.getD 59 undef = .string (sx.extract 0 i ++ sx.extract (i + 1) sx.size) := (d0 rfl).now
        refine op_yields (.string (sx.extract 0 i ++ sx.extract (i + 1) sx.size)) ?_ ?_ ?_
        · simp only [execOp, resolve, List.map_toArray, List.map_cons, List.map_nil, Act.eval, s59]; simp [go_sem, -Array.getD_eq_getD_getElem?, s59]
        · exact Below.refl _ _
        · exact (fun _ _ => rfl)
      case hG => exact fun w' hb => HB3.out.trans (((Below.refl _ _).drew.trans (hb.mono (by simp))).mono HB3.out.size)
      case hend =>
        intro vs w' hG hv
        have key : vs 8 = .string (sx.extract 0 i ++ sx.extract (i + 1) sx.size) := by
          obtain ⟨_, _, _, _, _, _, _, _, h8, _⟩ := hv
          exact h8.now
        have HB4 := Lib.hid hG.now
        clear hv hG
        simp only [putAll, Act.put, key]
        clear key
        go_simp
        go_wp2_with fail
        go_meet
        exact ⟨_, rfl, hz10, HB4.out⟩
    · go_upto_region 12 with fail
      refine wp_region_facts (R := fun a b => Below a.heap.size a b) (G := (fun W => Below w.heap.size w W)) (V := fun i' u' W => match i' with | 0 => u' = .string sx | 1 => u' = .int .i64 i | 2 => u' = .string (sx.extract 0 i) | 3 => u' = .int .u8 (cb.toNat : Int) | 4 => ∃ B, u' = .slice (some ⟨B, 0, none⟩) 1 1 ∧ Blk W B 5 [.int .u8 (cb.toNat : Int)] | 5 => u' = .string ⟨#[cb]⟩ | 6 => u' = .string (sx.extract 0 i ++ ⟨#[cb]⟩) | 7 => u' = .string sx | 8 => u' = .int .i64 i | 9 => u' = .string (sx.extract i sx.size) | 10 => u' = .string (sx.extract 0 i ++ ⟨#[cb]⟩ ++ sx.extract i sx.size) | 11 => u' = .string (sx.extract 0 i ++ ⟨#[cb]⟩ ++ sx.extract i sx.size) | _ => True) (by kernel_rfl) (fun w => Below.refl _ _) (fun a b c h1 h2 => h1.trans (h2.mono h1.size)) (by kernel_rfl) (by kernel_rfl) ?hG ⟨?o0, ?o1, ?o2, ?o3, ?o4, ?o5, ?o6, ?o7, ?o8, ?o9, ?o10, ?o11, trivial⟩ ?hend
      case o0 =>
        intro a w hfr hG hd
        refine ⟨fun hw => ?_, fun hw => absurd hw (by simp [Region.wanted])⟩
        have s11 : a.tmps.getD 11 undef = .string sx := hfr.at 11 (by kernel_rfl)
        refine op_yields (.string sx) ?_ ?_ ?_
        · simp only [execOp, resolve, List.map_toArray, List.map_cons, List.map_nil, Act.eval, s11]; simp [go_sem, -Array.getD_eq_getD_getElem?, s11]
        · exact Below.refl _ _
        · exact (fun _ _ => rfl)
      case o1 =>
        intro a w hfr hG hd
        refine ⟨fun hw => ?_, fun hw => absurd hw (by simp [Region.wanted])⟩
        have s12 : a.tmps.getD 12 undef = .int .i64 i := hfr.at 12 (by kernel_rfl)
        refine op_yields (.int .i64 i) ?_ ?_ ?_
        · simp only [execOp, resolve, List.map_toArray, List.map_cons, List.map_nil, Act.eval, s12]; simp [go_sem, -Array.getD_eq_getD_getElem?, s12]
        · exact Below.refl _ _
        · exact (fun _ _ => rfl)
      case o2 =>
        intro a w hfr hG hd
        obtain ⟨d0, d1, _⟩ := hd
        refine ⟨fun hw => ?_, fun hw => absurd hw (by simp [Region.wanted])⟩
        have s62 : a.tmps.getD 62 undef = .string sx := (d0 rfl).now
        have s63 : a.tmps.getD 63 undef = .int .i64 i := (d1 rfl).now
        refine op_yields (.string (sx.extract 0 i)) ?_ ?_ ?_
        · simp only [execOp, resolve, List.map_toArray, List.map_cons, List.map_nil, Act.eval, s62, s63]; simp [go_sem, -Array.getD_eq_getD_getElem?, s62, s63, hA]
        · exact Below.refl _ _
        · exact (fun _ _ => rfl)
      case o3 =>
        intro a w hfr hG hd
        refine ⟨fun hw => ?_, fun hw => absurd hw (by simp [Region.wanted])⟩
        have s3 : a.tmps.getD 3 undef = .int .u8 (cb.toNat : Int) := hfr.at 3 (by kernel_rfl)
        refine op_yields (.int .u8 (cb.toNat : Int)) ?_ ?_ ?_
        · simp only [execOp, resolve, List.map_toArray, List.map_cons, List.map_nil, Act.eval, s3]; simp [go_sem, -Array.getD_eq_getD_getElem?, s3]
        · exact Below.refl _ _
        · exact (fun _ _ => rfl)
      case o4 =>
        intro a w hfr hG hd
        obtain ⟨d0, _⟩ := hd
        refine ⟨fun hw => ?_, fun hw => absurd hw (by simp [Region.wanted])⟩
        have s65 : a.tmps.getD 65 undef = .int .u8 (cb.toNat : Int) := (d0 rfl).now
        refine op_makes (.slice (some ⟨w.heap.size, 0, none⟩) 1 1) (w' := w.alloc (.cells #[.int .u8 (cb.toNat : Int)] 5)) ?_ ?_ ?_
        · simp only [execOp, resolve, List.map_toArray, List.map_cons, List.map_nil, Act.eval, s65]; simp [go_sem, -Array.getD_eq_getD_getElem?, s65]
        · exact (Below.refl _ _).alloc (Nat.le_refl _) _
        · exact fun W' hW' => ⟨_, rfl, (Blk.mk (heap_alloc_new _ _) : Blk _ _ _ _).below hW' (by simp)⟩
      case o5 =>
        intro a w hfr hG hd
        obtain ⟨d0, _⟩ := hd
        refine ⟨fun hw => ?_, fun hw => absurd hw (by simp [Region.wanted])⟩
        obtain ⟨B, s66, _⟩ := (d0 rfl).now
        have f66 : Hold (fun a b => Below a.heap.size a b) (fun W => Blk W B 5 [.int .u8 (cb.toNat : Int)]) w := fun w2 h2 => by obtain ⟨_, e1, e2⟩ := d0 rfl w2 h2; have e3 := s66.symm.trans e1; simp only [Value.slice.injEq, Option.some.injEq, Addr.mk.injEq, Value.pointer.injEq, and_true, true_and] at e3; subst e3; exact e2
        have s66 : a.tmps.getD 66 undef = .slice (some ⟨B, 0, none⟩) 1 1 := s66
        refine op_yields (.string ⟨#[cb]⟩) ?_ ?_ ?_
        · have hcv := conv_one w f66.now rfl; simp only [execOp, resolve, List.map_toArray, List.map_cons, List.map_nil, Act.eval, s66]; simp [go_sem, hcv]
        · exact Below.refl _ _
        · exact (fun _ _ => rfl)
      case o6 =>
        intro a w hfr hG hd
        obtain ⟨d0, d1, _⟩ := hd
        refine ⟨fun hw => ?_, fun hw => absurd hw (by simp [Region.wanted])⟩
        have s64 : a.tmps.getD 64 undef = .string (sx.extract 0 i) := (d0 rfl).now
        have s67 : a.tmps.getD 67 undef = .string ⟨#[cb]⟩ := (d1 rfl).now
        refine op_yields (.string (sx.extract 0 i ++ ⟨#[cb]⟩)) ?_ ?_ ?_
        · simp only [execOp, resolve, List.map_toArray, List.map_cons, List.map_nil, Act.eval, s64, s67]; simp [go_sem, -Array.getD_eq_getD_getElem?, s64, s67, hl1, hl2, hl3, hl4]
        · exact Below.refl _ _
        · exact (fun _ _ => rfl)
      case o7 =>
        intro a w hfr hG hd
        refine ⟨fun hw => ?_, fun hw => absurd hw (by simp [Region.wanted])⟩
        have s11 : a.tmps.getD 11 undef = .string sx := hfr.at 11 (by kernel_rfl)
        refine op_yields (.string sx) ?_ ?_ ?_
        · simp only [execOp, resolve, List.map_toArray, List.map_cons, List.map_nil, Act.eval, s11]; simp [go_sem, -Array.getD_eq_getD_getElem?, s11]
        · exact Below.refl _ _
        · exact (fun _ _ => rfl)
      case o8 =>
        intro a w hfr hG hd
        refine ⟨fun hw => ?_, fun hw => absurd hw (by simp [Region.wanted])⟩
        have s12 : a.tmps.getD 12 undef = .int .i64 i := hfr.at 12 (by kernel_rfl)
        refine op_yields (.int .i64 i) ?_ ?_ ?_
        · simp only [execOp, resolve, List.map_toArray, List.map_cons, List.map_nil, Act.eval, s12]; simp [go_sem, -Array.getD_eq_getD_getElem?, s12]
        · exact Below.refl _ _
        · exact (fun _ _ => rfl)
      case o9 =>
        intro a w hfr hG hd
        obtain ⟨d0, d1, _⟩ := hd
        refine ⟨fun hw => ?_, fun hw => absurd hw (by simp [Region.wanted])⟩
        have s69 : a.tmps.getD 69 undef = .string sx := (d0 rfl).now
        have s70 : a.tmps.getD 70 undef = .int .i64 i := (d1 rfl).now
        refine op_yields (.string (sx.extract i sx.size)) ?_ ?_ ?_
        · simp only [execOp, resolve, List.map_toArray, List.map_cons, List.map_nil, Act.eval, s69, s70]; simp [go_sem, -Array.getD_eq_getD_getElem?, s69, s70, hA]
        · exact Below.refl _ _
        · exact (fun _ _ => rfl)
      case o10 =>
        intro a w hfr hG hd
        obtain ⟨d0, d1, _⟩ := hd
        refine ⟨fun hw => ?_, fun hw => absurd hw (by simp [Region.wanted])⟩
        have s68 : a.tmps.getD 68 undef = .string (sx.extract 0 i ++ ⟨#[cb]⟩) := (d0 rfl).now
        have s71 : a.tmps.getD 71 undef = .string (sx.extract i sx.size) := (d1 rfl).now
        refine op_yields (.string (sx.extract 0 i ++ ⟨#[cb]⟩ ++ sx.extract i sx.size)) ?_ ?_ ?_
        · simp only [execOp, resolve, List.map_toArray, List.map_cons, List.map_nil, Act.eval, s68, s71]; simp [go_sem, -Array.getD_eq_getD_getElem?, s68, s71, hl1, hl2, hl3, hl4]
        · exact Below.refl _ _
        · exact (fun _ _ => rfl)
      case o11 =>
        intro a w hfr hG hd
        obtain ⟨d0, d1, d2, d3, d4, d5, d6, d7, d8, d9, d10, d11, _⟩ := hd
        refine ⟨fun hw => ?_, fun hw => absurd hw (by simp [Region.wanted])⟩
        have s72 : a.tmps.getD 72 undef = .string (sx.extract 0 i ++ ⟨#[cb]⟩ ++ sx.extract i sx.size) := (d0 rfl).now
        refine op_yields (.string (sx.extract 0 i ++ ⟨#[cb]⟩ ++ sx.extract i sx.size)) ?_ ?_ ?_
        · simp only [execOp, resolve, List.map_toArray, List.map_cons, List.map_nil, Act.eval, s72]; simp [go_sem, -Array.getD_eq_getD_getElem?, s72]
        · exact Below.refl _ _
        · exact (fun _ _ => rfl)
      case hG => exact fun w' hb => HB3.out.trans (((Below.refl _ _).drew.trans (hb.mono (by simp))).mono HB3.out.size)
      case hend =>
        intro vs w' hG hv
        have key : vs 11 = .string (sx.extract 0 i ++ ⟨#[cb]⟩ ++ sx.extract i sx.size) := by
          obtain ⟨_, _, _, _, _, _, _, _, _, _, _, h11, _⟩ := hv
          exact h11.now
        have HB4 := Lib.hid hG.now
        clear hv hG
        simp only [putAll, Act.put, key]
        clear key
        go_simp
        go_wp2_with fail
        go_meet
        exact ⟨_, rfl, hz12, HB4.out⟩
    · go_wp2_with fail
      go_meet
      exact ⟨_, rfl, hz3, HB3.out⟩
    · go_wp2_with fail
      go_meet
      exact ⟨_, rfl, hz6, HB3.out⟩
  case rest =>
    obtain ⟨s, rfl, hs, hbel⟩ := hcut
    have HBL := Lib.hid hbel
    clear hbel HB3 hA hB hB0 hw1 hl1 hl2 hl3 hl4 hc1 hz8 hz10 hz12 hz3 hz6 hm1 hm2
    have HPA := Lib.hid (parse_x s wc (by omega))
    have HIN := Lib.hid (parseF_in s.data.toList)
    rw [ba_len] at HIN
    obtain ⟨r, hr⟩ : ∃ r, parseF s.data.toList = r := ⟨_, rfl⟩
    rw [hr] at HPA HIN
    clear hr
    obtain ⟨pe, pa, perr⟩ := r
    go_wp2_with fail
    (with_reducible refine HPA.out.mono ?_); rintro e w4 hx
    obtain ⟨zk, zn, D1, j1, zms, D2, j2, zns, D3, j3, zks, rfl, hp, hf, hw⟩ := hx.forms
    have HQZ := Lib.hid hp
    simp only at HQZ
    have ha := (Below.refl w4.heap.size w4).alloc (Nat.le_refl _) (.cells #[.int .i64 zk, .int .i64 zn, .slice D1 zms.length j1, .slice D2 zns.length j2, .slice D3 zks.length j3] 26)
    have HZ : Hid (XBox _ 9 zk zn D1 j1 zms D2 j2 zns D3 j3 zks _) := Lib.hid (XBox.new hf.now)
    have HBL_n := Lib.hid ((HBL.out.trans (hw.mono HBL.out.size)).trans (ha.mono (Nat.le_trans HBL.out.size hw.size))); clear HBL; have HBL := HBL_n; clear HBL_n
    clear hx hp hf hw HPA ha
    go_upto_region 16 with fail
    obtain ⟨g13, hg13⟩ : ∃ g, w4.heap.size = g := ⟨_, rfl⟩
    rw [hg13] at HZ ⊢
    clear hg13
    generalize w4.alloc (.cells #[.int .i64 zk, .int .i64 zn, .slice D1 zms.length j1, .slice D2 zns.length j2, .slice D3 zks.length j3] 26) = W5 at *
    have HRU := Lib.hid (fun V (hV : Below w.heap.size w V) => expr_runs V (tab_of HT.out hV))
    by_cases he : perr = 0
    · subst he
      obtain ⟨rfl, hty, hfit, hdp, htk, hsm⟩ := HIN.out.1 rfl
      simp only at hty hfit hdp htk hsm
      have htx := text_len 8 pe hdp hty hfit
      have HPB := parse_back hty hdp hfit htk
      have e8 : (2 : Nat) ^ 8 = 256 := rfl
      have hsp : ((⟨pe.text.toArray⟩ : ByteArray)).data.toList = pe.text := rfl
      have HPR := Lib.hid (fun V (hV : XBox g13 9 zk zn D1 j1 zms D2 j2 zns D3 j3 zks V) (hW : Below w.heap.size w V) => show Calls Tryd.prog 12 #[.agg #[.int .i64 zk, .int .i64 zn, .slice D1 zms.length j1, .slice D2 zns.length j2, .slice D3 zks.length j3]] V fun e w' => e = .returned (.string ⟨pe.text.toArray⟩) ∧ Below V.heap.size V w' by
        have h := print_x 9 (by decide) (XE.mk zk zn (.slice D1 zms.length j1) zms (.slice D2 zns.length j2) zns (.slice D3 zks.length j3) zks) V (by rw [HQZ.out]; exact hsm) (by rw [HQZ.out]; exact hfit) (tab_of HT.out hW) hV.ok
        rw [HQZ.out] at h
        unfold PE.print at h
        rw [if_pos ⟨hty, hdp⟩] at h; exact h)
      have HTY := Lib.hid (fun V (hV : XBox g13 9 zk zn D1 j1 zms D2 j2 zns D3 j3 zks V) => show Calls Tryd.prog 10 #[.agg #[.int .i64 zk, .int .i64 zn, .slice D1 zms.length j1, .slice D2 zns.length j2, .slice D3 zks.length j3]] V fun e w' => e = .returned (.int .i64 pe.ty) ∧ Below V.heap.size V w' by
        have h := type_any 9 (XE.mk zk zn (.slice D1 zms.length j1) zms (.slice D2 zns.length j2) zns (.slice D3 zks.length j3) zks) V (by rw [HQZ.out]; exact hsm) hV.ok
        rw [HQZ.out] at h; exact h)
      obtain ⟨sp, hspe⟩ : ∃ sp : ByteArray, (⟨pe.text.toArray⟩ : ByteArray) = sp := ⟨_, rfl⟩
      rw [hspe] at hsp HPR
      have HPP := Lib.hid (fun V => parse_x sp V (by have h := ba_len sp; rw [hsp] at h; omega))
      rw [hsp, HPB] at HPP
      have HSM := Lib.hid hsm
      have t1 : (pe.ty != 0) = true := by rw [bne_iff_ne]; exact hty
      generalize pe.ty = ty at *
      clear hfit hdp htk hsm htx HPB e8 hsp hspe hty HIN
      obtain ⟨x0, x1, x2, x3, x4⟩ := blk_cells5 HZ.out.blk
      go_wp2_with fail
      (with_reducible refine (HPR.out _ HZ.out HBL.out).mono ?_); rintro e w6 ⟨rfl, hb⟩
      have HZ_n := Lib.hid (HZ.out.below hb); clear HZ; have HZ := HZ_n; clear HZ_n
      have HBL_n := Lib.hid (HBL.out.trans (hb.mono HBL.out.size)); clear HBL; have HBL := HBL_n; clear HBL_n
      clear hb x0 x1 x2 x3 x4 HPR
      go_wp2_with fail
      (with_reducible refine (HPP.out _).mono ?_); rintro e w7 hx
      obtain ⟨uk, un, E1, l1, ums, E2, l2, uns, E3, l3, uks, rfl, hp, hf, hw⟩ := hx.forms
      have HQU := Lib.hid hp
      simp only at HQU
      have ha := (Below.refl w7.heap.size w7).alloc (Nat.le_refl _) (.cells #[.int .i64 uk, .int .i64 un, .slice E1 ums.length l1, .slice E2 uns.length l2, .slice E3 uks.length l3] 26)
      have HU : Hid (XBox _ 9 uk un E1 l1 ums E2 l2 uns E3 l3 uks _) := Lib.hid (XBox.new hf.now)
      have HZ_n := Lib.hid ((HZ.out.below hw).below ha); clear HZ; have HZ := HZ_n; clear HZ_n
      have HBL_n := Lib.hid ((HBL.out.trans (hw.mono HBL.out.size)).trans (ha.mono (Nat.le_trans HBL.out.size hw.size))); clear HBL; have HBL := HBL_n; clear HBL_n
      clear hx hp hf hw HPP ha
      go_upto_region 19 with fail
      obtain ⟨g16, hg16⟩ : ∃ g, w7.heap.size = g := ⟨_, rfl⟩
      rw [hg16] at HU ⊢
      clear hg16
      generalize w7.alloc (.cells #[.int .i64 uk, .int .i64 un, .slice E1 ums.length l1, .slice E2 uns.length l2, .slice E3 uks.length l3] 26) = W8 at *
      have HEU := Lib.hid (fun V (hV : XBox g13 9 zk zn D1 j1 zms D2 j2 zns D3 j3 zks V) (hU : XBox g16 9 uk un E1 l1 ums E2 l2 uns E3 l3 uks V) => show Calls Tryd.prog 15 #[.agg #[.int .i64 zk, .int .i64 zn, .slice D1 zms.length j1, .slice D2 zns.length j2, .slice D3 zks.length j3], .agg #[.int .i64 uk, .int .i64 un, .slice E1 ums.length l1, .slice E2 uns.length l2, .slice E3 uks.length l3]] V fun e w' => e = .returned (.bool true) ∧ Below V.heap.size V w' by
        have h := exprs_any 9 (XE.mk zk zn (.slice D1 zms.length j1) zms (.slice D2 zns.length j2) zns (.slice D3 zks.length j3) zks) (XE.mk uk un (.slice E1 ums.length l1) ums (.slice E2 uns.length l2) uns (.slice E3 uks.length l3) uks) V hV.ok hU.ok (by rw [HQZ.out]; exact HSM.out)
        rw [eqPE_yes (by rw [HQZ.out, HQU.out])] at h; exact h)
      obtain ⟨x0, x1, x2, x3, x4⟩ := blk_cells5 HZ.out.blk
      go_wp2_with fail
      (with_reducible refine (HTY.out _ HZ.out).mono ?_); rintro e w9 ⟨rfl, hb⟩
      have HZ_n := Lib.hid (HZ.out.below hb); clear HZ; have HZ := HZ_n; clear HZ_n
      have HU_n := Lib.hid (HU.out.below hb); clear HU; have HU := HU_n; clear HU_n
      have HBL_n := Lib.hid (HBL.out.trans (hb.mono HBL.out.size)); clear HBL; have HBL := HBL_n; clear HBL_n
      clear hb x0 x1 x2 x3 x4 HTY
      obtain ⟨x0, x1, x2, x3, x4⟩ := blk_cells5 HZ.out.blk
      obtain ⟨y0, y1, y2, y3, y4⟩ := blk_cells5 HU.out.blk
      go_wp2_with fail
      (with_reducible refine (HEU.out _ HZ.out HU.out).mono ?_); rintro e w10 ⟨rfl, hb⟩
      have HBL_n := Lib.hid (HBL.out.trans (hb.mono HBL.out.size)); clear HBL; have HBL := HBL_n; clear HBL_n
      clear hb x0 x1 x2 x3 x4 y0 y1 y2 y3 y4
      go_wp2_with fail
      (with_reducible refine (HRU.out _ HBL.out).mono ?_); rintro e w11 ⟨rfl, hb⟩
      have HB := Lib.hid (HBL.out.trans (hb.mono HBL.out.size))
      clear hb
      go_wp2_with fail
      go_ret
      exact ⟨rfl, HB.out⟩
    · obtain ⟨rfl, herr, hpa0, hpa1⟩ := HIN.out.2 he
      simp only at herr hpa0 hpa1
      clear HIN he
      have HEZ := Lib.hid (fun V (hV : XBox g13 9 zk zn D1 j1 zms D2 j2 zns D3 j3 zks V) => show Calls Tryd.prog 15 #[.agg #[.int .i64 zk, .int .i64 zn, .slice D1 zms.length j1, .slice D2 zns.length j2, .slice D3 zks.length j3], .agg #[.int .i64 0, .int .i64 0, .slice none 0 0, .slice none 0 0, .slice none 0 0]] V fun e w' => e = .returned (.bool true) ∧ Below V.heap.size V w' by
        have h := exprs_any 9 (XE.mk zk zn (.slice D1 zms.length j1) zms (.slice D2 zns.length j2) zns (.slice D3 zks.length j3) zks) zeroXE V hV.ok (zeroXE_far (fun _ => False) V 8).now (by rw [HQZ.out]; exact zeroPE_small)
        rw [eqPE_yes (by rw [HQZ.out]; rfl)] at h; exact h)
      obtain ⟨x0, x1, x2, x3, x4⟩ := blk_cells5 HZ.out.blk
      rcases herr with rfl | rfl
      · go_wp2_with fail
        (with_reducible refine (HEZ.out _ HZ.out).mono ?_); rintro e w6 ⟨rfl, hb⟩
        have HBL_n := Lib.hid (HBL.out.trans (hb.mono HBL.out.size)); clear HBL; have HBL := HBL_n; clear HBL_n
        clear hb x0 x1 x2 x3 x4
        go_wp2_with fail
        (with_reducible refine (HRU.out _ HBL.out).mono ?_); rintro e w11 ⟨rfl, hb⟩
        have HB := Lib.hid (HBL.out.trans (hb.mono HBL.out.size))
        clear hb
        go_wp2_with fail
        go_ret
        exact ⟨rfl, HB.out⟩
      · go_wp2_with fail
        (with_reducible refine (HEZ.out _ HZ.out).mono ?_); rintro e w6 ⟨rfl, hb⟩
        have HBL_n := Lib.hid (HBL.out.trans (hb.mono HBL.out.size)); clear HBL; have HBL := HBL_n; clear HBL_n
        clear hb x0 x1 x2 x3 x4
        go_wp2_with fail
        (with_reducible refine (HRU.out _ HBL.out).mono ?_); rintro e w11 ⟨rfl, hb⟩
        have HB := Lib.hid (HBL.out.trans (hb.mono HBL.out.size))
        clear hb
        go_wp2_with fail
        go_ret
        exact ⟨rfl, HB.out⟩
end Go.Proofs.YtnkbpcenkbihpaaDoor
