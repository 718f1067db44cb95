/- Texts, merged in one. -/
import Derived.Test.YtlmakdclebbbkaaGreatBase34
import Derived.StillTail
import Derived.Test.YtlmakdclebbbkaaGreatBase13
import Derived.Test.YtlmakdclebbbkaaGreatBase20
import Derived.StillTailTactics
namespace Go.Proofs.YtlmakdclebbbkaaGreat
open Go.ChangeShapes Go.WideShapes Go.ChangeAt Go.RowKit
set_option linter.unusedVariables false
set_option linter.unusedSimpArgs false
set_option maxRecDepth 100000
theorem Tryz.infoMtc5 : (Tryz.prog.info? 32).map (fun i => (i.zero, i.size, i.bytes)) = some (some (.agg #[.string ⟨#[]⟩, .string ⟨#[]⟩, .int .i64 0]), 3, 40) := by kernel_rfl
theorem Tryz.infoStr5 : (Tryz.prog.info? 9).map (fun i => (i.zero, i.size, i.bytes)) = some (some (.string ⟨#[]⟩), 1, 16) := by kernel_rfl
theorem mtc_one3 (a b : ByteArray) (kd : Int) : ∀ u ∈ [Value.string a, .string b, .int .i64 kd], u.oneCell' = true := by simp [Value.oneCell']
theorem VecAns.drew {d b i : Nat} {K : XE → Prop} {w w' : World} {e : Ending} (h : VecAns d b i K w e w') : VecAns d b i K w e w'.drew := by
  obtain ⟨x, j, h1, h2, h3, h4, h5, h6⟩ := h
  exact ⟨x, j, h1, h2, h3.below (Below.refl _ _).drew, h4.below (Below.refl _ _).drew h4.lt, h5, only_drew h6⟩
theorem VecAtX.pair2 {k : KSet} {B b : Nat} {w0 w : World} {b3 b6 j i d : Nat} (h : VecAtX k B b w0 b3 b6 j w) {K : XE → Prop} (kk : Int) (x y : XE) {g : Nat} (hK : ∀ g, K (pairX kk g x y)) (hb : Blk w g 37 (kcells [x, y])) (hg : b6 < g) (hx : FarS (fun c => c < w0.heap.size ∨ c = b6) (okX d x) w) (hy : FarS (fun c => c < w0.heap.size ∨ c = b6) (okX d y) w) (hj : j + 1 ≤ i + 2 ^ (d + 1)) :
    VecAns (d + 1) b i K w0 (.returned (pairX kk g x y).val) (set5W w b6 (.int .i64 kk) (.int .i64 0) (.slice none 0 0) (.slice none 0 0) (.slice (some ⟨g, 0, none⟩) 2 2)) := by
  have hl := h.lt
  refine h.fin (K := K) (i := i) (pairX kk g x y) (hK _) ?_ hj
  refine okX_far (FarS.nil 3) (FarS.nil 1) ?_ (fun q hq => ?_)
  · exact FarS.slc (S := fun c => c < w0.heap.size ∨ c = b6) (n := 2) (size := 5) hb (fun e => by rcases e with e | e <;> omega) rfl (by omega)
  · rw [List.mem_cons, List.mem_singleton] at hq
    rcases hq with rfl | rfl
    · exact hx
    · exact hy
def oneX (kk : Int) (g : Nat) (nv : Value) (ns : List ByteArray) (x : XE) : XE := .mk kk 0 (.slice none 0 0) [] nv ns (.slice (some ⟨g, 0, none⟩) 1 1) [x]
theorem VecAtX.one {k : KSet} {B b : Nat} {w0 w : World} {b3 b6 j i d : Nat} (h : VecAtX k B b w0 b3 b6 j w) {K : XE → Prop} (kk : Int) (x : XE) {nv : Value} {ns : List ByteArray} (hK : ∀ g, K (oneX kk g nv ns x)) (hn : FarS (fun c => c < w0.heap.size ∨ c = b6) (fun W => Slc W 1 nv ns.length (strs ns)) w) (hx : FarS (fun c => c < w0.heap.size ∨ c = b6) (okX d x) w) (hj : j + 1 ≤ i + 2 ^ (d + 1)) :
    VecAns (d + 1) b i K w0 (.returned (oneX kk w.heap.size nv ns x).val) (set5W (w.alloc (.cells #[.int .i64 x.kd, .int .i64 x.n, x.mv, x.nv, x.kv] 37)) b6 (.int .i64 kk) (.int .i64 0) (.slice none 0 0) nv (.slice (some ⟨w.heap.size, 0, none⟩) 1 1)) := by
  have hl := h.lt
  have h6 := h.res.lt
  have hs := h.gr.size
  have hg : w.grownBy (w.alloc (.cells #[.int .i64 x.kd, .int .i64 x.n, x.mv, x.nv, x.kv] 37)) none := only_alloc (World.grownBy.refl w _) _
  refine (h.alloc (.cells #[.int .i64 x.kd, .int .i64 x.n, x.mv, x.nv, x.kv] 37)).fin (K := K) (i := i) (oneX kk w.heap.size nv ns x) (hK _) ?_ hj
  refine okX_far (FarS.nil 3) (hn.grown hg (fun c e => by cases e)) ?_ (fun q hq => ?_)
  · have hb : Blk (w.alloc (.cells #[.int .i64 x.kd, .int .i64 x.n, x.mv, x.nv, x.kv] 37)) w.heap.size 37 (kcells [x]) := Blk.mk (heap_alloc_new w _)
    exact FarS.slc (S := fun c => c < w0.heap.size ∨ c = b6) (n := 1) (size := 5) hb (fun e => by rcases e with e | e <;> omega) rfl (by omega)
  · rw [List.mem_singleton] at hq; subst hq
    exact hx.grown hg (fun c e => by cases e)
theorem VecAtX.farRow {k : KSet} {B b : Nat} {w0 w w' : World} {b3 b6 j : Nat} {row : Option Nat} (h : VecAtX k B b w0 b3 b6 j w) (hg : w.grownBy w' row) (h6 : ∀ g, row = some g → b6 < g) : VecAtX k B b w0 b3 b6 j w' := by
  have hl := h.lt
  have h1 := h.gr.size
  exact ⟨h.box.grown hg (fun e => by have := h6 _ e.symm; omega), h.res.grown hg (fun e => by have := h6 _ e.symm; omega), h.at_.grown hg (fun e => by have := h6 _ e.symm; omega), h.ok.grown hg (by omega) (fun c e => by have := h6 _ e; omega), h.gr.andThen hg (fun c e => .inl (by have := h6 _ e; omega)), hl⟩
theorem VecAtX.far {k : KSet} {B b : Nat} {w0 w w' : World} {b3 b6 j g : Nat} (h : VecAtX k B b w0 b3 b6 j w) (hg : w.grownBy w' (some g)) (h6 : b6 < g) : VecAtX k B b w0 b3 b6 j w' := by
  have hl := h.lt
  have h1 := h.gr.size
  exact ⟨h.box.grown hg (fun e => by injection e with e; omega), h.res.grown hg (fun e => by injection e with e; omega), h.at_.grown hg (fun e => by injection e with e; omega), h.ok.grown hg (by omega) (fun c e => by injection e with e; omega), h.gr.andThen hg (fun c e => .inl (by injection e with e; omega)), hl⟩
def VecSaid (k : KSet) (b B d : Nat) : Prop := ∀ (deep i : Nat) (w : World), deep + d = 5 → k.ok B w → Blk w b 3 [.int .i64 (i : Nat)] → i + 2 ^ d ≤ 1000 → 0 < d →
    Calls Tryz.prog 44 #[k.val, .pointer (some ⟨b, 0, none⟩), .int .i64 (deep : Nat)] w (VecAns d b i (keepV d) w)
set_option maxHeartbeats 8000000 in
theorem vector_step (k : KSet) (b B : Nat) (hB : B ≤ b) (d : Nat) (IH : 0 < d → VecSaid k b B d) : VecSaid k b B (d + 1) := by
    intro deep i w hd hk hb hi _
    obtain ⟨hp1, hp2⟩ := two_pow d
    have hi1 : i + 1 ≤ 1000 := by omega
    have HI := Lib.hid hi
    have HP := Lib.hid hp1
    have HVS := Lib.hid (VecAtX.start hk hB hb)
    have HIH := Lib.hid (fun (j : Nat) (V : World) h1 h2 h3 h4 => show Calls Tryz.prog 44 #[.agg #[.slice k.A k.n k.c, .slice k.A2 k.n2 k.c2], .pointer (some ⟨b, 0, none⟩), .int .i64 ((deep : Int) + 1)] V (VecAns d b j (keepV d) V) from IH h4 (deep + 1) j V (by omega) h1 h2 h3 h4)
    have HNU := Lib.hid (fun (j : Nat) (V : World) h1 h2 h3 h4 => show Calls Tryz.prog 81 #[.agg #[.slice k.A k.n k.c, .slice k.A2 k.n2 k.c2], .pointer (some ⟨b, 0, none⟩), .int .i64 ((deep : Int) + 1)] V (VecAns d b j (keepN d) V) from number_any k b B hB d (deep + 1) j V (by omega) h1 h2 h3 h4)
    clear hk hb hi IH
    obtain ⟨b3, hb3⟩ : ∃ c, w.heap.size = c := ⟨_, rfl⟩
    obtain ⟨b6, hb6⟩ : ∃ c, b3 + 1 = c := ⟨_, rfl⟩
    have HB3 := Lib.hid hb3
    have HB6 := Lib.hid hb6
    have HV0 := Lib.hid (show VecAtX k B b w b3 b6 i ((w.alloc (.cells #[.slice k.A k.n k.c, .slice k.A2 k.n2 k.c2] 53)).alloc (.cells #[.int .i64 0, .int .i64 0, .slice none 0 0, .slice none 0 0, .slice none 0 0] 37)) by subst hb3; subst hb6; exact HVS.out)
    clear hb3 hb6 HVS
    show Calls _ _ #[.agg #[.slice k.A k.n k.c, .slice k.A2 k.n2 k.c2], _, _] _ _
    go_enter Tryz.func44, Tryz.ntmps44
    go_upto_region 1 with fail
    rw [HB3.out, HB6.out]
    generalize (w.alloc (.cells #[.slice k.A k.n k.c, .slice k.A2 k.n2 k.c2] 53)).alloc (.cells #[.int .i64 0, .int .i64 0, .slice none 0 0, .slice none 0 0, .slice none 0 0] 37) = W1 at *
    obtain ⟨c0, c1⟩ := ok_box2 HV0.out
    go_wp2_with fail
    (with_reducible refine (next_v k b B i W1 HV0.out.ok hB HV0.out.at_ (by omega)).mono ?_); rintro e wn ⟨kd, n, hkd, hn, rfl, hat, hg⟩
    have HV1 := Lib.hid (HV0.out.grown hg hat)
    have HW := Lib.hid (fun V => within_any kd 0 9 V hkd (by omega) (by omega) (by omega))
    obtain ⟨hv1, hv2⟩ := nWithin_in kd (lo := 0) (hi := 9) (by omega)
    generalize nWithin kd 0 9 = c at *
    have HN := Lib.hid hn
    clear hat hg HV0 c0 c1 hkd hn
    go_wp2_with fail
    (with_reducible refine (HW.out _).mono ?_); rintro e wz ⟨rfl, rfl⟩
    go_upto_if 32 with fail
    go_cut [9] from 31 to 32 (fun x9 wx => ∃ c' : Int, x9 = .int .i64 c' ∧ 0 ≤ c' ∧ c' ≤ 9 ∧ (c' ≤ 3 ∨ 0 < d) ∧ VecAtX k B b w b3 b6 (i + 1) wx)
    case first =>
      by_cases h0 : 0 < d
      · have hd3 : (deep : Int) ≤ 3 := by omega
        go_wp2_with fail
        go_meet
        exact ⟨c, rfl, hv1, hv2, .inr h0, HV1.out⟩
      · have hd3 : ¬ (deep : Int) ≤ 3 := by omega
        go_wp2_with fail
        go_meet
        exact ⟨0, rfl, by omega, by omega, .inl (by omega), HV1.out⟩
    case rest =>
      obtain ⟨c', rfl, hv3, hv4, h0, hat⟩ := hcut
      have HV := Lib.hid hat
      clear hat HV1 HW hv1 hv2
      obtain ⟨p, hp⟩ : ∃ p, decide (c' ≤ 3) = p := ⟨_, rfl⟩
      have HPP := Lib.hid hp
      clear hp
      go_upto_region 6 with fail
      go_upto_if 34 with fail
      go_cut [34] from 35 to 38 (fun x34 wx => x34 = .bool p ∧ VecAtX k B b w b3 b6 (i + 1) wx)
      case first =>
        have hc9 : c' = 0 ∨ c' = 1 ∨ c' = 2 ∨ c' = 3 ∨ 3 < c' := by omega
        rcases hc9 with rfl | rfl | rfl | rfl | h
        · have hpt : p = true := HPP.out.symm.trans (by decide)
          go_wp2_with fail
          go_meet
          exact ⟨by subst hpt; rfl, HV.out⟩
        · have hpt : p = true := HPP.out.symm.trans (by decide)
          go_wp2_with fail
          go_meet
          exact ⟨by subst hpt; rfl, HV.out⟩
        · have hpt : p = true := HPP.out.symm.trans (by decide)
          go_wp2_with fail
          go_meet
          exact ⟨by subst hpt; rfl, HV.out⟩
        · have hpt : p = true := HPP.out.symm.trans (by decide)
          go_wp2_with fail
          go_meet
          exact ⟨by subst hpt; rfl, HV.out⟩
        · have hpt : p = false := HPP.out.symm.trans (decide_eq_false (by omega))
          have t0 : (c' == 0) = false := by rw [beq_eq_false_iff_ne]; omega
          have t1 : (c' == 1) = false := by rw [beq_eq_false_iff_ne]; omega
          have t2 : (c' == 2) = false := by rw [beq_eq_false_iff_ne]; omega
          have t3 : (c' == 3) = false := by rw [beq_eq_false_iff_ne]; omega
          go_wp2_with fail
          go_meet
          exact ⟨by subst hpt; rfl, HV.out⟩
      case rest =>
        obtain ⟨rfl, hat⟩ := hcut
        have HV2 := Lib.hid hat
        clear hat HV
        cases p with
        | true => --doneP
          clear HPP HIH HNU h0
          obtain ⟨hq1, hq2⟩ := nWithin_in n (lo := 0) (hi := 1) (by omega)
          have HW := Lib.hid (fun V => within_any n 0 1 V HN.out (by omega) (by omega) (by omega))
          generalize nWithin n 0 1 = q at *
          obtain ⟨q, rfl⟩ := Int.eq_ofNat_of_zero_le hq1
          have hq3 : q < 2 := by omega
          have w109 : IntKind.i64.wrap (109 + (q : Int)) = 109 + q := by rw [IntKind.wrap_i64]; omega
          have u109 : IntKind.u8.wrap (109 + (q : Int)) = 109 + q := by
            match q, hq3 with
            | 0, _ => rfl
            | 1, _ => rfl
          have HCV := Lib.hid (fun V g => conv_at V g (UInt8.ofNat (109 + q)) (109 + (q : Int)) (by
            match q, hq3 with
            | 0, _ => rfl
            | 1, _ => rfl))
          have HC2 : Hid (UInt8.ofNat (109 + q) = 109 ∨ UInt8.ofNat (109 + q) = 110) := Lib.hid (by
            match q, hq3 with
            | 0, _ => exact .inl rfl
            | 1, _ => exact .inr rfl)
          generalize UInt8.ofNat (109 + q) = ch at *
          have hcv := HCV.out (wc.alloc (.cells #[.int .u8 (109 + (q : Int))] 5)) wc.heap.size (Blk.mk (heap_alloc_new wc _))
          go_wp2_with fail
          (with_reducible refine (HW.out _).mono ?_); rintro e wz ⟨rfl, rfl⟩
          go_upto_region 11 with fail
          obtain ⟨g1, hg1⟩ : ∃ g, wc.heap.size + 1 = g := ⟨_, rfl⟩
          have HG1 := Lib.hid hg1
          obtain ⟨W2, hW2⟩ : ∃ W, (wc.alloc (.cells #[.int .u8 (109 + (q : Int))] 5)).alloc (.cells #[.string ⟨#[110, 97, 109, 101]⟩, .string ⟨#[ch]⟩, .int .i64 1] 32) = W := ⟨_, rfl⟩
          have HB := Lib.hid (show Blk W2 g1 32 (mtcs [(⟨#[110, 97, 109, 101]⟩, ⟨#[ch]⟩, 1)]) from by
            have h := heap_alloc_new (wc.alloc (.cells #[.int .u8 (109 + (q : Int))] 5)) (.cells #[.string ⟨#[110, 97, 109, 101]⟩, .string ⟨#[ch]⟩, .int .i64 1] 32)
            rw [show (wc.alloc (.cells #[.int .u8 (109 + (q : Int))] 5)).heap.size = g1 by simp [← hg1], hW2] at h
            exact Blk.mk h)
          have HV3 := Lib.hid (show VecAtX k B b w b3 b6 (i + 1) W2 by rw [← hW2]; exact (HV2.out.alloc _).alloc _)
          have h16 : b6 + 1 ≤ g1 := by have := HV2.out.res.lt; omega
          have HR := Lib.hid (show W2.ownsRow (b6 + 1) 32 3 (.slice (some ⟨g1, 0, none⟩) 1 1) 1 (mtcs [(⟨#[110, 97, 109, 101]⟩, ⟨#[ch]⟩, 1)]) from HB.out.owns (n := 1) (cap := 1) (size := 3) h16 (Nat.le_refl _) (by unfold maxLen; omega) rfl)
          rw [HG1.out, hW2]
          clear hcv hW2 hg1 HV2 HW HCV w109 u109 HB hq1 hq2 hq3
          obtain ⟨g4, hg4⟩ : ∃ g, (bits BinOp.and IntKind.i64 n 4 == 4) = g := ⟨_, rfl⟩
          go_upto_if 49 with fail
          clear hg4
          go_cut [10] from 50 to 68 (fun x10 wx => ∃ (A : Option Addr) (m cx : Nat) (ms : List Mtc), x10 = .slice A m cx ∧ ms.length = m ∧ keepMs ms ∧ wx.ownsRow (b6 + 1) 32 3 (.slice A m cx) m (mtcs ms) ∧ VecAtX k B b w b3 b6 (i + 1) wx)
          case first =>
            cases g4 with
            | false =>
              go_wp2_with fail
              go_meet
              exact ⟨_, 1, 1, _, rfl, rfl, ⟨ch, HC2.out, .inl rfl⟩, HR.out, HV3.out⟩
            | true =>
              obtain ⟨i0, hi0, hz0, hz1, hz2⟩ := info_parts Tryz.infoMtc5
              obtain ⟨q8, hq8⟩ : ∃ q, n.tdiv 8 = q := ⟨_, rfl⟩
              obtain ⟨q16, hq16⟩ : ∃ q, n.tdiv 16 = q := ⟨_, rfl⟩
              have hi8 : I64 q8 := by rw [← hq8]; exact I64_tdiv HN.out (by decide)
              have hi16 : I64 q16 := by rw [← hq16]; exact I64_tdiv HN.out (by decide)
              obtain ⟨ha1, ha2⟩ := nWithin_in q8 (lo := 0) (hi := 2) (by omega)
              obtain ⟨hc1, hc2⟩ := nWithin_in q8 (lo := 0) (hi := 3) (by omega)
              obtain ⟨hd1, hd2⟩ := nWithin_in q16 (lo := 1) (hi := 4) (by omega)
              have HW4 := Lib.hid (fun V => within_any q8 0 2 V hi8 (by omega) (by omega) (by omega))
              have HW16 := Lib.hid (fun V => within_any q8 0 3 V hi8 (by omega) (by omega) (by omega))
              have HWV := Lib.hid (fun V => within_any q16 1 4 V hi16 (by omega) (by omega) (by omega))
              generalize nWithin q8 0 2 = a at *
              generalize nWithin q8 0 3 = vc at *
              generalize nWithin q16 1 4 = mk at *
              obtain ⟨a, rfl⟩ := Int.eq_ofNat_of_zero_le ha1
              obtain ⟨vc, rfl⟩ := Int.eq_ofNat_of_zero_le hc1
              have ha3 : a < 3 := by omega
              have hc4 : vc < 4 := by omega
              have w8 : IntKind.i64.wrap q8 = q8 := by unfold I64 at hi8; rw [IntKind.wrap_i64]; omega
              have w16 : IntKind.i64.wrap q16 = q16 := by unfold I64 at hi16; rw [IntKind.wrap_i64]; omega
              have HKM := Lib.hid (show keepMs [(⟨#[110, 97, 109, 101]⟩, ⟨#[ch]⟩, 1), (keepNames.getD a ⟨#[]⟩, keepValues.getD vc ⟨#[]⟩, mk)] from ⟨ch, HC2.out, .inr ⟨a, vc, mk, ha3, hc4, hd1, hd2, rfl⟩⟩)
              go_upto_region 12 with fail
              obtain ⟨D, hD⟩ : ∃ D, W2.drew = D := ⟨_, rfl⟩
              have HVD := Lib.hid (show VecAtX k B b w b3 b6 (i + 1) D by rw [← hD]; exact HV3.out.drew)
              have HRD := Lib.hid (show D.ownsRow (b6 + 1) 32 3 (.slice (some ⟨g1, 0, none⟩) 1 1) 1 (mtcs [(⟨#[110, 97, 109, 101]⟩, ⟨#[ch]⟩, 1)]) by rw [← hD]; exact own_below HR.out (Below.refl _ _).drew (Nat.le_refl _))
              have tok1 : True := trivial
              have tok2 : True := trivial
              have tok3 : True := trivial
              have tok4 : True := trivial
              have tok5 : True := trivial
              have tok6 : True := trivial
              have za1 : (0 : Int) ≤ a := by omega
              have za2 : (a : Int) < 4 := by omega
              have zc1 : (0 : Int) ≤ vc := by omega
              have zc2 : (vc : Int) < 8 := by omega
              clear HV3 HR
              go_region_law (first
                | (have tk := tok1; (try go_simp); go_at_call 76; (with_reducible refine (names_any _).mono ?_); rintro e wn ⟨rfl, hwn⟩; have HBN := Lib.hid (show Below D.heap.size D wn from (by rw [← hwn]; exact (Below.refl _ _).alloc (Nat.le_refl _) _)); have HNN := Lib.hid (show Blk wn D.heap.size 9 (strs keepNames) from (by rw [← hwn]; exact Blk.mk (heap_alloc_new D _))); have e66 := name_cell HNN.out ha3; generalize keepNames.getD a ⟨#[]⟩ = na at *; clear tok1 tk hwn)
                | (have tk := tok2; (try go_simp); go_at_call 17; (with_reducible refine (HW4.out _).mono ?_); rintro e wz ⟨rfl, rfl⟩; clear tok2 tk HW4)
                | (have tk := tok3; (try go_simp); go_at_call 75; (with_reducible refine (values_any _).mono ?_); rintro e wv ⟨rfl, hwv⟩; have HBV := Lib.hid (show Below wn.heap.size wn wv from (by rw [← hwv]; exact (Below.refl _ _).alloc (Nat.le_refl _) _)); have HVV := Lib.hid (show Blk wv wn.heap.size 9 (strs keepValues) from (by rw [← hwv]; exact Blk.mk (heap_alloc_new wn _))); have e66' := (HBV.out.cell (p := ⟨D.heap.size, a, none⟩) HNN.out.lt).trans e66; have e72 := value_cell HVV.out hc4; generalize keepValues.getD vc ⟨#[]⟩ = va at *; clear tok3 tk hwv)
                | (have tk := tok4; (try go_simp); go_at_call 17; (with_reducible refine (HW16.out _).mono ?_); rintro e wz ⟨rfl, rfl⟩; clear tok4 tk HW16)
                | (have tk := tok5; (try go_simp); go_at_call 17; (with_reducible refine (HWV.out _).mono ?_); rintro e wz ⟨rfl, rfl⟩; have HVW := Lib.hid ((HVD.out.below HBN.out).below HBV.out); have HRW := Lib.hid (own_below (own_below (own_below HRD.out HBN.out (Nat.le_refl _)) HBV.out (Nat.le_refl _)) ((Below.refl wv.heap.size wv).alloc (Nat.le_refl _) (.cells #[.string na, .string va, .int .i64 mk] 32)) (Nat.le_refl _)); have HX := Lib.hid (show Sees (wv.alloc (.cells #[.string na, .string va, .int .i64 mk] 32)) (wv.alloc (.cells #[.string na, .string va, .int .i64 mk] 32)).heap.size 3 (some ⟨wv.heap.size, 0, none⟩) 1 [.string na, .string va, .int .i64 mk] from (Blk.mk (heap_alloc_new wv _) : Blk _ wv.heap.size 32 [.string na, .string va, .int .i64 mk]).sees rfl (List.prefix_refl _)); have hbs : b6 + 1 ≤ (wv.alloc (.cells #[.string na, .string va, .int .i64 mk] 32)).heap.size := Nat.succ_le_of_lt (HVW.out.alloc (.cells #[.string na, .string va, .int .i64 mk] 32)).res.lt; clear tok5 tk HWV)
                | (have tk := tok6; refine step_append_at3 rfl (.tmp 50) (.tmp 67) 33 rfl (b6 + 1) 32 i0 (.agg #[.string ⟨#[]⟩, .string ⟨#[]⟩, .int .i64 0]) 3 40 Tryz.underlying33 hi0 hz0 hz1 hz2 rfl (by decide) (.slice (some ⟨g1, 0, none⟩) 1 1) 1 (mtcs [(⟨#[110, 97, 109, 101]⟩, ⟨#[ch]⟩, 1)]) (by first | rfl | (simp [Act.eval]; done)) HRW.out _ _ 1 1 [.string na, .string va, .int .i64 mk] (by first | rfl | (simp [Act.eval]; done)) HX.out (mtc_one3 _ _ _) (by unfold maxLen; omega) (by omega) hbs ?_; intro v9 w9 hown9 hgr9 hwh9; obtain ⟨A9, c9, hA9, _, _⟩ := own_slice hown9; subst hA9; have HO9 := Lib.hid hown9; have HG9 := Lib.hid hgr9; clear tok6 tk hown9 hgr9 hwh9)
                | fail)
              all_goals
                have HVZ := Lib.hid ((HVW.out.alloc (.cells #[.string na, .string va, .int .i64 mk] 32)).far HG9.out (g := g1) (by omega))
                clear HVW HRW HX HBN HNN HBV HVV HG9 HVD HRD e66 e66' e72 hbs
                go_wp2_with fail
                go_meet
                exact ⟨A9, 2, c9, _, rfl, rfl, HKM.out, HO9.out, HVZ.out⟩
          case rest =>
            obtain ⟨A, m, cx, ms, rfl, hml, hkm, hrow, hat⟩ := hcut
            have HM := Lib.hid hkm
            have HRW := Lib.hid hrow
            have HV4 := Lib.hid hat
            have HML := Lib.hid hml
            clear hkm hrow hat hml HV3 HR
            obtain ⟨hv1, hv2⟩ := nWithin_in n (lo := 1) (hi := 30) (by omega)
            have HW := Lib.hid (fun V => within_any n 1 30 V HN.out (by omega) (by omega) (by omega))
            generalize nWithin n 1 30 = v at *
            obtain ⟨y0, y1, y2, y3, y4⟩ := blk_cells5 HV4.out.res
            obtain ⟨z0, z1, z2, z3, z4⟩ := blk_fr5 HV4.out.res
            have HQ := Lib.hid (set5W_blk HV4.out.res (.int .i64 2) (.int .i64 v) (.slice A m cx) (.slice none 0 0) (.slice none 0 0))
            go_wp2_with fail
            (with_reducible refine (HW.out _).mono ?_); rintro e wz ⟨rfl, rfl⟩
            go_wp2_with fail
            obtain ⟨q0, q1, q2, q3, q4⟩ := blk_cells5 HQ.out
            unfold set5W at q0 q1 q2 q3 q4
            have HFN := Lib.hid (HV4.out.fin (K := keepV (d + 1)) (i := i) (d := d + 1) (.mk 2 v (.slice A m cx) ms (.slice none 0 0) [] (.slice none 0 0) []) (.inl ⟨rfl, hv1, hv2, HM.out, rfl, rfl⟩) (okX_far (by have h := HML.out; subst h; exact FarS.own HRW.out (fun g hg => by have h1 := (HRW.out.lt g hg).1; have h2 := HV4.out.lt; intro e; rcases e with e | e <;> omega)) (FarS.nil 1) (FarS.nil 5) (fun x hx => absurd hx List.not_mem_nil)) (by have := HP.out; omega))
            refine bodyPost_ret (v := (XE.mk 2 v (.slice A m cx) ms (.slice none 0 0) [] (.slice none 0 0) []).val) (by simp [XE.val, XE.kd, XE.n, XE.mv, XE.nv, XE.kv, results, Tryz.results44, go_sem, q0, q1, q2, q3, q4]) rfl ?_
            exact HFN.out
        | false => --@rest (gen_vec.py)
          have hc3 : 3 < c' := by have h := of_decide_eq_false HPP.out; omega
          clear HPP
          have hd0 : 0 < d := by rcases h0 with h | h <;> omega
          clear h0
          have h0 := hd0
          clear hd0
          have h2d : 2 ≤ 2 ^ d := by obtain ⟨d', rfl⟩ : ∃ d', d = d' + 1 := ⟨d - 1, by omega⟩; have := two_pow d'; omega
          have hd3 : (deep : Int) ≤ 3 := by omega
          obtain ⟨p5, hp5⟩ : ∃ p, decide (c' ≤ 5) = p := ⟨_, rfl⟩
          have HPP := Lib.hid hp5
          clear hp5
          go_upto_region 14 with fail
          go_upto_if 73 with fail
          go_cut [73] from 74 to 75 (fun x73 wx => x73 = .bool p5 ∧ VecAtX k B b w b3 b6 (i + 1) wx)
          case first =>
            have hc9 : c' = 4 ∨ c' = 5 ∨ 5 < c' := by omega
            rcases hc9 with rfl | rfl | h
            · have hpt : p5 = true := HPP.out.symm.trans (by decide)
              go_wp2_with fail
              go_meet
              exact ⟨by subst hpt; rfl, HV2.out⟩
            · have hpt : p5 = true := HPP.out.symm.trans (by decide)
              go_wp2_with fail
              go_meet
              exact ⟨by subst hpt; rfl, HV2.out⟩
            · have hpt : p5 = false := HPP.out.symm.trans (decide_eq_false (by omega))
              have t0 : (c' == 4) = false := by rw [beq_eq_false_iff_ne]; omega
              have t1 : (c' == 5) = false := by rw [beq_eq_false_iff_ne]; omega
              go_wp2_with fail
              go_meet
              exact ⟨by subst hpt; rfl, HV2.out⟩
          case rest =>
            obtain ⟨rfl, hat⟩ := hcut
            have HV5 := Lib.hid hat
            clear hat HV2
            have HV2 := HV5
            clear HV5
            cases p5 with
            | true => --done45
              obtain ⟨c0, c1⟩ := ok_box2 HV2.out
              have HSa := Lib.hid (show w.heap.size ≤ wc.heap.size ∧ b6 < wc.heap.size ∧ b < wc.heap.size from ⟨HV2.out.gr.size, HV2.out.res.lt, HV2.out.at_.lt⟩)
              go_wp2_with fail
              (with_reducible refine (HIH.out (i + 1) _ HV2.out.ok HV2.out.at_ (by have := HI.out; omega) h0).mono ?_); rintro e wa ⟨⟨xak, xan, xamv, xams, xanv, xans, xakv, xaks⟩, ja, he, hkx, hfx, hat, hja, hg⟩
              obtain ⟨Aa1, ca1, Aa2, ca2, Aa3, ca3, e1, e2, e3⟩ := okX_forms hfx.now
              simp only [XE.mv, XE.nv, XE.kv, XE.ms, XE.ns, XE.kids] at e1 e2 e3
              subst e1; subst e2; subst e3
              have he2 : e = .returned (.agg #[.int .i64 xak, .int .i64 xan, .slice Aa1 xams.length ca1, .slice Aa2 xans.length ca2, .slice Aa3 xaks.length ca3]) := he
              subst he2
              have HVa := Lib.hid ((HV2.out.grown hg hat).alloc (.cells #[.int .i64 xak, .int .i64 xan, .slice Aa1 xams.length ca1, .slice Aa2 xans.length ca2, .slice Aa3 xaks.length ca3] 37))
              have HKa := Lib.hid (show Kid d wc.heap.size wa.heap.size (XE.mk xak xan (.slice Aa1 xams.length ca1) xams (.slice Aa2 xans.length ca2) xans (.slice Aa3 xaks.length ca3) xaks) (wa.alloc (.cells #[.int .i64 xak, .int .i64 xan, .slice Aa1 xams.length ca1, .slice Aa2 xans.length ca2, .slice Aa3 xaks.length ca3] 37)) from Kid.made hfx hg.size)
              have HPa := Lib.hid hkx
              have HJa := Lib.hid hja
              clear HV2 c0 c1 he hkx hfx hat hja hg
              go_upto_region 17 with fail
              generalize wa.alloc (.cells #[.int .i64 xak, .int .i64 xan, .slice Aa1 xams.length ca1, .slice Aa2 xans.length ca2, .slice Aa3 xaks.length ca3] 37) = Wa at *
              generalize wa.heap.size = ga at *
              obtain ⟨c0, c1⟩ := ok_box2 HVa.out
              have hja : ja ≤ 1000 := by have := HJa.out; have := HI.out; omega
              go_wp2_with fail
              (with_reducible refine (next_v k b B ja Wa HVa.out.ok hB HVa.out.at_ hja).mono ?_); rintro e wn2 ⟨kd2, n2, hkd2, hn2, rfl, hat, hg⟩
              have HV4 := Lib.hid (HVa.out.grown hg hat)
              have HK4 := Lib.hid (HKa.out.grown hg HSa.out.2.2)
              have HW := Lib.hid (fun V => within_any n 8 13 V HN.out (by omega) (by omega) (by omega))
              have HW2 := Lib.hid (fun V => within_any n2 (-3) 9 V hn2 (by omega) (by omega) (by omega))
              obtain ⟨hk1, hk2⟩ := nWithin_in n (lo := 8) (hi := 13) (by omega)
              obtain ⟨hn3, hn4⟩ := nWithin_in n2 (lo := -3) (hi := 9) (by omega)
              generalize nWithin n 8 13 = kk at *
              generalize nWithin n2 (-3) 9 = vv at *
              clear HVa HKa c0 c1 hat hg hkd2 hn2
              go_upto_region 18 with fail
              have HVX := Lib.hid HV4.out
              have HKA := Lib.hid (show Kid d wc.heap.size ga (XE.mk xak xan (.slice Aa1 xams.length ca1) xams (.slice Aa2 xans.length ca2) xans (.slice Aa3 xaks.length ca3) xaks) wn2 from HK4.out)
              obtain ⟨x0, x1, x2, x3, x4⟩ := blk_cells5 (show Blk wn2 ga 37 [.int .i64 xak, .int .i64 xan, .slice Aa1 xams.length ca1, .slice Aa2 xans.length ca2, .slice Aa3 xaks.length ca3] from HK4.out.blk)
              obtain ⟨y0, y1, y2, y3, y4⟩ := blk_cells5 (HVX.out.alloc (.cells #[.int .i64 xak, .int .i64 xan, .slice Aa1 xams.length ca1, .slice Aa2 xans.length ca2, .slice Aa3 xaks.length ca3, .int .i64 1, .int .i64 vv, .slice none 0 0, .slice none 0 0, .slice none 0 0] 37)).res
              obtain ⟨z0, z1, z2, z3, z4⟩ := blk_fr5 (HVX.out.alloc (.cells #[.int .i64 xak, .int .i64 xan, .slice Aa1 xams.length ca1, .slice Aa2 xans.length ca2, .slice Aa3 xaks.length ca3, .int .i64 1, .int .i64 vv, .slice none 0 0, .slice none 0 0, .slice none 0 0] 37)).res
              clear HV4 HK4 HIH HNU
              go_still_tail 6, (by kernel_rfl)
              still_call ((HW.out _).mono fun e w' h => ⟨h.1, h.2.symm⟩)
              repeat still_step
              still_call ((HW2.out _).mono fun e w' h => ⟨h.1, h.2.symm⟩)
              repeat still_step
              refine wpStill_nil ?_
              change wpList _ _ _ _ _ wn2.drew
              all_goals
                have HQ := Lib.hid (set5W_blk (HVX.out.alloc (.cells #[.int .i64 xak, .int .i64 xan, .slice Aa1 xams.length ca1, .slice Aa2 xans.length ca2, .slice Aa3 xaks.length ca3, .int .i64 1, .int .i64 vv, .slice none 0 0, .slice none 0 0, .slice none 0 0] 37)).res (.int .i64 kk) (.int .i64 0) (.slice none 0 0) (.slice none 0 0) (.slice (some ⟨wn2.heap.size, 0, none⟩) 2 2))
                have HFN := Lib.hid (HVX.out.pair (d := d) (i := i) (K := keepV (d + 1)) kk (XE.mk xak xan (.slice Aa1 xams.length ca1) xams (.slice Aa2 xans.length ca2) xans (.slice Aa3 xaks.length ca3) xaks) (numX vv) (fun g => .inr (.inl ⟨hk1, hk2, rfl, rfl, rfl, _, _, rfl, HPa.out, ⟨rfl, hn3, hn4, rfl, rfl, rfl⟩⟩)) (HKA.out.s0 HSa.out.1 HSa.out.2.1) (by obtain ⟨d', rfl⟩ : ∃ d', d = d' + 1 := ⟨d - 1, by omega⟩; exact numX_far d' vv) (by have := HJa.out; have := h2d; omega))
                go_wp2_with fail
                obtain ⟨q0, q1, q2, q3, q4⟩ := blk_cells5 HQ.out
                unfold set5W at q0 q1 q2 q3 q4
                refine bodyPost_ret (v := (pairX kk wn2.heap.size (XE.mk xak xan (.slice Aa1 xams.length ca1) xams (.slice Aa2 xans.length ca2) xans (.slice Aa3 xaks.length ca3) xaks) (numX vv)).val) (by simp [XE.val, pairX, XE.kd, XE.n, XE.mv, XE.nv, XE.kv, results, Tryz.results44, go_sem, q0, q1, q2, q3, q4]) rfl ?_
                exact HFN.out.drew
            | false =>
              have hc9 : c' = 6 ∨ c' = 7 ∨ c' = 8 ∨ c' = 9 := by have h := of_decide_eq_false HPP.out; omega
              clear HPP hc3
              rcases hc9 with rfl | rfl | rfl | rfl
              · --done6
                obtain ⟨c0, c1⟩ := ok_box2 HV2.out
                have HSa := Lib.hid (show w.heap.size ≤ wc.heap.size ∧ b6 < wc.heap.size ∧ b < wc.heap.size from ⟨HV2.out.gr.size, HV2.out.res.lt, HV2.out.at_.lt⟩)
                go_wp2_with fail
                (with_reducible refine (HIH.out (i + 1) _ HV2.out.ok HV2.out.at_ (by have := HI.out; omega) h0).mono ?_); rintro e wa ⟨⟨xak, xan, xamv, xams, xanv, xans, xakv, xaks⟩, ja, he, hkx, hfx, hat, hja, hg⟩
                obtain ⟨Aa1, ca1, Aa2, ca2, Aa3, ca3, e1, e2, e3⟩ := okX_forms hfx.now
                simp only [XE.mv, XE.nv, XE.kv, XE.ms, XE.ns, XE.kids] at e1 e2 e3
                subst e1; subst e2; subst e3
                have he2 : e = .returned (.agg #[.int .i64 xak, .int .i64 xan, .slice Aa1 xams.length ca1, .slice Aa2 xans.length ca2, .slice Aa3 xaks.length ca3]) := he
                subst he2
                have HVa := Lib.hid ((HV2.out.grown hg hat).alloc (.cells #[.int .i64 xak, .int .i64 xan, .slice Aa1 xams.length ca1, .slice Aa2 xans.length ca2, .slice Aa3 xaks.length ca3] 37))
                have HKa := Lib.hid (show Kid d wc.heap.size wa.heap.size (XE.mk xak xan (.slice Aa1 xams.length ca1) xams (.slice Aa2 xans.length ca2) xans (.slice Aa3 xaks.length ca3) xaks) (wa.alloc (.cells #[.int .i64 xak, .int .i64 xan, .slice Aa1 xams.length ca1, .slice Aa2 xans.length ca2, .slice Aa3 xaks.length ca3] 37)) from Kid.made hfx hg.size)
                have HPa := Lib.hid hkx
                have HJa := Lib.hid hja
                clear HV2 c0 c1 he hkx hfx hat hja hg
                go_upto_region 21 with fail
                generalize wa.alloc (.cells #[.int .i64 xak, .int .i64 xan, .slice Aa1 xams.length ca1, .slice Aa2 xans.length ca2, .slice Aa3 xaks.length ca3] 37) = Wa at *
                generalize wa.heap.size = ga at *
                obtain ⟨c0, c1⟩ := ok_box2 HVa.out
                have HSb := Lib.hid (show w.heap.size ≤ Wa.heap.size ∧ b6 < Wa.heap.size ∧ b < Wa.heap.size from ⟨HVa.out.gr.size, HVa.out.res.lt, HVa.out.at_.lt⟩)
                go_wp2_with fail
                (with_reducible refine (HIH.out ja _ HVa.out.ok HVa.out.at_ (by have := HI.out; have := HJa.out; omega) h0).mono ?_); rintro e wb ⟨⟨xbk, xbn, xbmv, xbms, xbnv, xbns, xbkv, xbks⟩, jb, he, hkx, hfx, hat, hjb, hg⟩
                obtain ⟨Ab1, cb1, Ab2, cb2, Ab3, cb3, e1, e2, e3⟩ := okX_forms hfx.now
                simp only [XE.mv, XE.nv, XE.kv, XE.ms, XE.ns, XE.kids] at e1 e2 e3
                subst e1; subst e2; subst e3
                have he2 : e = .returned (.agg #[.int .i64 xbk, .int .i64 xbn, .slice Ab1 xbms.length cb1, .slice Ab2 xbns.length cb2, .slice Ab3 xbks.length cb3]) := he
                subst he2
                have HVb := Lib.hid ((HVa.out.grown hg hat).alloc (.cells #[.int .i64 xbk, .int .i64 xbn, .slice Ab1 xbms.length cb1, .slice Ab2 xbns.length cb2, .slice Ab3 xbks.length cb3] 37))
                have HKb := Lib.hid (show Kid d Wa.heap.size wb.heap.size (XE.mk xbk xbn (.slice Ab1 xbms.length cb1) xbms (.slice Ab2 xbns.length cb2) xbns (.slice Ab3 xbks.length cb3) xbks) (wb.alloc (.cells #[.int .i64 xbk, .int .i64 xbn, .slice Ab1 xbms.length cb1, .slice Ab2 xbns.length cb2, .slice Ab3 xbks.length cb3] 37)) from Kid.made hfx hg.size)
                have HPb := Lib.hid hkx
                have HJb := Lib.hid hjb
                have HKE := Lib.hid ((HKa.out.grown hg HSa.out.2.2).below ((Below.refl wb.heap.size wb).alloc (Nat.le_refl _) (.cells #[.int .i64 xbk, .int .i64 xbn, .slice Ab1 xbms.length cb1, .slice Ab2 xbns.length cb2, .slice Ab3 xbks.length cb3] 37)))
                clear HVa c0 c1 he hkx hfx hat hjb hg HKa
                have HKa := HKE; clear HKE
                go_upto_region 22 with fail
                generalize wb.alloc (.cells #[.int .i64 xbk, .int .i64 xbn, .slice Ab1 xbms.length cb1, .slice Ab2 xbns.length cb2, .slice Ab3 xbks.length cb3] 37) = Wb at *
                generalize wb.heap.size = gb at *
                have HW := Lib.hid (fun V => within_any n 8 16 V HN.out (by omega) (by omega) (by omega))
                obtain ⟨hk1, hk2⟩ := nWithin_in n (lo := 8) (hi := 16) (by omega)
                generalize nWithin n 8 16 = kk at *
                clear HIH HNU h0
                refine wp_region_facts_tail 5 (R := fun a b => Below a.heap.size a b) (G := (fun W => VecAtX k B b w b3 b6 jb W ∧ Kid d wc.heap.size ga (XE.mk xak xan (.slice Aa1 xams.length ca1) xams (.slice Aa2 xans.length ca2) xans (.slice Aa3 xaks.length ca3) xaks) W ∧ Kid d Wa.heap.size gb (XE.mk xbk xbn (.slice Ab1 xbms.length cb1) xbms (.slice Ab2 xbns.length cb2) xbns (.slice Ab3 xbks.length cb3) xbks) W)) (V := fun i' u' W => match i' with | 0 => u' = .int .i64 n | 1 => u' = .int .i64 kk | 2 => u' = .agg #[.int .i64 xak, .int .i64 xan, .slice Aa1 xams.length ca1, .slice Aa2 xans.length ca2, .slice Aa3 xaks.length ca3] | 3 => u' = .agg #[.int .i64 xbk, .int .i64 xbn, .slice Ab1 xbms.length cb1, .slice Ab2 xbns.length cb2, .slice Ab3 xbks.length cb3] | 4 => ∃ g, u' = .slice (some ⟨g, 0, none⟩) 2 2 ∧ Blk W g 37 [.int .i64 xak, .int .i64 xan, .slice Aa1 xams.length ca1, .slice Aa2 xans.length ca2, .slice Aa3 xaks.length ca3, .int .i64 xbk, .int .i64 xbn, .slice Ab1 xbms.length cb1, .slice Ab2 xbns.length cb2, .slice Ab3 xbks.length cb3] ∧ b6 < g | _ => True) (by kernel_rfl) (fun w => Below.refl _ _) (fun a b c h1 h2 => h1.trans (h2.mono h1.size)) (by kernel_rfl) (by kernel_rfl) (by kernel_rfl) (by kernel_rfl) (by decide) (by kernel_rfl) ?hG ⟨?o0, ?o1, ?o2, ?o3, ?o4, trivial⟩ ?hend
                case o0 =>
                  intro a w hfr hG hd
                  refine ⟨fun hw => ?_, fun hw => absurd hw (by simp [Region.wanted])⟩
                  have s8 : a.tmps.getD 8 undef = .int .i64 n := hfr.at 8 (by kernel_rfl)
                  refine op_yields (.int .i64 n) ?_ ?_ ?_
                  · simp only [execOp, resolve, List.map_toArray, List.map_cons, List.map_nil, Act.eval, s8]; simp [go_sem, -Array.getD_eq_getD_getElem?, s8]
                  · exact Below.refl _ _
                  · exact (fun _ _ => rfl)
                case o1 =>
                  intro a w hfr hG hd
                  obtain ⟨d0, _⟩ := hd
                  refine ⟨fun hw => ?_, fun hw => absurd hw (by simp [Region.wanted])⟩
                  have s107 : a.tmps.getD 107 undef = .int .i64 n := (d0 rfl).now
                  refine op_calls2 (((HW.out w).mono (fun e' w' hh => show e' = .returned (.int .i64 kk) ∧ Below w.heap.size w w' from ⟨hh.1, hh.2 ▸ Below.refl _ _⟩)).mono fun e' w' hh => ⟨_, hh.1, hh.2, (fun _ _ => rfl)⟩) ?_
                  simp only [execOp, resolve, List.map_toArray, List.map_cons, List.map_nil, Act.eval, s107]; simp [go_sem, -Array.getD_eq_getD_getElem?, s107]
                case o2 =>
                  intro a w hfr hG hd
                  refine ⟨fun hw => ?_, fun hw => absurd hw (by simp [Region.wanted])⟩
                  have s14 : a.tmps.getD 14 undef = .pointer (some ⟨ga, 0, none⟩) := hfr.at 14 (by kernel_rfl)
                  obtain ⟨x0, x1, x2, x3, x4⟩ := blk_cells5 (show Blk w ga 37 [.int .i64 xak, .int .i64 xan, .slice Aa1 xams.length ca1, .slice Aa2 xans.length ca2, .slice Aa3 xaks.length ca3] from hG.now.2.1.blk)
                  refine op_yields (.agg #[.int .i64 xak, .int .i64 xan, .slice Aa1 xams.length ca1, .slice Aa2 xans.length ca2, .slice Aa3 xaks.length ca3]) ?_ ?_ ?_
                  · simp only [execOp, resolve, List.map_toArray, List.map_cons, List.map_nil, Act.eval, s14]; simp [go_sem, -Array.getD_eq_getD_getElem?, s14, x0, x1, x2, x3, x4]
                  · exact Below.refl _ _
                  · exact (fun _ _ => rfl)
                case o3 =>
                  intro a w hfr hG hd
                  refine ⟨fun hw => ?_, fun hw => absurd hw (by simp [Region.wanted])⟩
                  have s15 : a.tmps.getD 15 undef = .pointer (some ⟨gb, 0, none⟩) := hfr.at 15 (by kernel_rfl)
                  obtain ⟨x0, x1, x2, x3, x4⟩ := blk_cells5 (show Blk w gb 37 [.int .i64 xbk, .int .i64 xbn, .slice Ab1 xbms.length cb1, .slice Ab2 xbns.length cb2, .slice Ab3 xbks.length cb3] from hG.now.2.2.blk)
                  refine op_yields (.agg #[.int .i64 xbk, .int .i64 xbn, .slice Ab1 xbms.length cb1, .slice Ab2 xbns.length cb2, .slice Ab3 xbks.length cb3]) ?_ ?_ ?_
                  · simp only [execOp, resolve, List.map_toArray, List.map_cons, List.map_nil, Act.eval, s15]; simp [go_sem, -Array.getD_eq_getD_getElem?, s15, x0, x1, x2, x3, x4]
                  · exact Below.refl _ _
                  · exact (fun _ _ => rfl)
                case o4 =>
                  intro a w hfr hG hd
                  obtain ⟨d0, d1, _⟩ := hd
                  refine ⟨fun hw => ?_, fun hw => absurd hw (by simp [Region.wanted])⟩
                  have s109 : a.tmps.getD 109 undef = .agg #[.int .i64 xak, .int .i64 xan, .slice Aa1 xams.length ca1, .slice Aa2 xans.length ca2, .slice Aa3 xaks.length ca3] := (d0 rfl).now
                  have s110 : a.tmps.getD 110 undef = .agg #[.int .i64 xbk, .int .i64 xbn, .slice Ab1 xbms.length cb1, .slice Ab2 xbns.length cb2, .slice Ab3 xbks.length cb3] := (d1 rfl).now
                  exact op_makes (.slice (some ⟨w.heap.size, 0, none⟩) 2 2) (w' := w.alloc (.cells #[.int .i64 xak, .int .i64 xan, .slice Aa1 xams.length ca1, .slice Aa2 xans.length ca2, .slice Aa3 xaks.length ca3, .int .i64 xbk, .int .i64 xbn, .slice Ab1 xbms.length cb1, .slice Ab2 xbns.length cb2, .slice Ab3 xbks.length cb3] 37)) (by simp only [execOp, resolve, List.map_toArray, List.map_cons, List.map_nil, Act.eval, s109, s110]; simp [go_sem, -Array.getD_eq_getD_getElem?, s109, s110]) ((Below.refl _ _).alloc (Nat.le_refl _) _) (fun W' hW' => ⟨_, rfl, (Blk.mk (heap_alloc_new _ _) : Blk _ _ _ _).below hW' (by simp), hG.now.1.res.lt⟩)
                case hG => exact fun w' hb => ⟨HVb.out.below ((Below.refl _ _).drew.trans (hb.mono (by simp))), HKa.out.below ((Below.refl _ _).drew.trans (hb.mono (by simp))), HKb.out.below ((Below.refl _ _).drew.trans (hb.mono (by simp)))⟩
                case hend =>
                  intro vs w' hG hv
                  have key : vs 1 = .int .i64 kk ∧ ∃ g, vs 4 = .slice (some ⟨g, 0, none⟩) 2 2 ∧ Blk w' g 37 [.int .i64 xak, .int .i64 xan, .slice Aa1 xams.length ca1, .slice Aa2 xans.length ca2, .slice Aa3 xaks.length ca3, .int .i64 xbk, .int .i64 xbn, .slice Ab1 xbms.length cb1, .slice Ab2 xbns.length cb2, .slice Ab3 xbks.length cb3] ∧ b6 < g := by
                    obtain ⟨_, h1, _, _, h4, _⟩ := hv
                    exact ⟨h1.now, h4.now⟩
                  obtain ⟨hvx, hka, hkb⟩ := hG.now
                  have HVX := Lib.hid hvx
                  have HKA := Lib.hid hka
                  have HKB := Lib.hid hkb
                  clear hvx hka hkb hv hG HVb HKa HKb HW
                  obtain ⟨e1, g, e4, hrow, hbg⟩ := key
                  have HR := Lib.hid hrow
                  clear hrow
                  obtain ⟨y0, y1, y2, y3, y4⟩ := blk_cells5 HVX.out.res
                  obtain ⟨z0, z1, z2, z3, z4⟩ := blk_fr5 HVX.out.res
                  have HQ := Lib.hid (set5W_blk HVX.out.res (.int .i64 kk) (.int .i64 0) (.slice none 0 0) (.slice none 0 0) (.slice (some ⟨g, 0, none⟩) 2 2))
                  have HFN := Lib.hid (HVX.out.pair2 (d := d) (i := i) (K := keepV (d + 1)) kk (XE.mk xak xan (.slice Aa1 xams.length ca1) xams (.slice Aa2 xans.length ca2) xans (.slice Aa3 xaks.length ca3) xaks) (XE.mk xbk xbn (.slice Ab1 xbms.length cb1) xbms (.slice Ab2 xbns.length cb2) xbns (.slice Ab3 xbks.length cb3) xbks) (fun g => .inr (.inr (.inl ⟨(by omega : (3 : Int) ≤ kk), (by omega : kk ≤ 16), rfl, rfl, rfl, _, _, rfl, HPa.out, HPb.out⟩))) HR.out hbg (HKA.out.s0 HSa.out.1 HSa.out.2.1) (HKB.out.s0 HSb.out.1 HSb.out.2.1) (by have := HJa.out; have := HJb.out; omega))
                  change wpList _ _ _ [_, _] (putAll vs 0 [_, _, _, _, _] _) _
                  simp only [putAll, Act.put, e1, e4]
                  clear e1 e4 HR
                  go_wp2_with fail
                  obtain ⟨q0, q1, q2, q3, q4⟩ := blk_cells5 HQ.out
                  unfold set5W at q0 q1 q2 q3 q4
                  refine bodyPost_ret (v := (pairX kk g (XE.mk xak xan (.slice Aa1 xams.length ca1) xams (.slice Aa2 xans.length ca2) xans (.slice Aa3 xaks.length ca3) xaks) (XE.mk xbk xbn (.slice Ab1 xbms.length cb1) xbms (.slice Ab2 xbns.length cb2) xbns (.slice Ab3 xbks.length cb3) xbks)).val) (by simp [XE.val, pairX, XE.kd, XE.n, XE.mv, XE.nv, XE.kv, results, Tryz.results44, go_sem, q0, q1, q2, q3, q4]) rfl ?_
                  exact HFN.out
              · --done7
                obtain ⟨c0, c1⟩ := ok_box2 HV2.out
                have HSa := Lib.hid (show w.heap.size ≤ wc.heap.size ∧ b6 < wc.heap.size ∧ b < wc.heap.size from ⟨HV2.out.gr.size, HV2.out.res.lt, HV2.out.at_.lt⟩)
                go_wp2_with fail
                (with_reducible refine (HIH.out (i + 1) _ HV2.out.ok HV2.out.at_ (by have := HI.out; omega) h0).mono ?_); rintro e wa ⟨⟨xak, xan, xamv, xams, xanv, xans, xakv, xaks⟩, ja, he, hkx, hfx, hat, hja, hg⟩
                obtain ⟨Aa1, ca1, Aa2, ca2, Aa3, ca3, e1, e2, e3⟩ := okX_forms hfx.now
                simp only [XE.mv, XE.nv, XE.kv, XE.ms, XE.ns, XE.kids] at e1 e2 e3
                subst e1; subst e2; subst e3
                have he2 : e = .returned (.agg #[.int .i64 xak, .int .i64 xan, .slice Aa1 xams.length ca1, .slice Aa2 xans.length ca2, .slice Aa3 xaks.length ca3]) := he
                subst he2
                have HVa := Lib.hid ((HV2.out.grown hg hat).alloc (.cells #[.int .i64 xak, .int .i64 xan, .slice Aa1 xams.length ca1, .slice Aa2 xans.length ca2, .slice Aa3 xaks.length ca3] 37))
                have HKa := Lib.hid (show Kid d wc.heap.size wa.heap.size (XE.mk xak xan (.slice Aa1 xams.length ca1) xams (.slice Aa2 xans.length ca2) xans (.slice Aa3 xaks.length ca3) xaks) (wa.alloc (.cells #[.int .i64 xak, .int .i64 xan, .slice Aa1 xams.length ca1, .slice Aa2 xans.length ca2, .slice Aa3 xaks.length ca3] 37)) from Kid.made hfx hg.size)
                have HPa := Lib.hid hkx
                have HJa := Lib.hid hja
                clear HV2 c0 c1 he hkx hfx hat hja hg
                go_upto_region 25 with fail
                generalize wa.alloc (.cells #[.int .i64 xak, .int .i64 xan, .slice Aa1 xams.length ca1, .slice Aa2 xans.length ca2, .slice Aa3 xaks.length ca3] 37) = Wa at *
                generalize wa.heap.size = ga at *
                obtain ⟨c0, c1⟩ := ok_box2 HVa.out
                have HSb := Lib.hid (show w.heap.size ≤ Wa.heap.size ∧ b6 < Wa.heap.size ∧ b < Wa.heap.size from ⟨HVa.out.gr.size, HVa.out.res.lt, HVa.out.at_.lt⟩)
                go_wp2_with fail
                (with_reducible refine (HNU.out ja _ HVa.out.ok HVa.out.at_ (by have := HI.out; have := HJa.out; omega) h0).mono ?_); rintro e wb ⟨⟨xbk, xbn, xbmv, xbms, xbnv, xbns, xbkv, xbks⟩, jb, he, hkx, hfx, hat, hjb, hg⟩
                obtain ⟨Ab1, cb1, Ab2, cb2, Ab3, cb3, e1, e2, e3⟩ := okX_forms hfx.now
                simp only [XE.mv, XE.nv, XE.kv, XE.ms, XE.ns, XE.kids] at e1 e2 e3
                subst e1; subst e2; subst e3
                have he2 : e = .returned (.agg #[.int .i64 xbk, .int .i64 xbn, .slice Ab1 xbms.length cb1, .slice Ab2 xbns.length cb2, .slice Ab3 xbks.length cb3]) := he
                subst he2
                have HVb := Lib.hid ((HVa.out.grown hg hat).alloc (.cells #[.int .i64 xbk, .int .i64 xbn, .slice Ab1 xbms.length cb1, .slice Ab2 xbns.length cb2, .slice Ab3 xbks.length cb3] 37))
                have HKb := Lib.hid (show Kid d Wa.heap.size wb.heap.size (XE.mk xbk xbn (.slice Ab1 xbms.length cb1) xbms (.slice Ab2 xbns.length cb2) xbns (.slice Ab3 xbks.length cb3) xbks) (wb.alloc (.cells #[.int .i64 xbk, .int .i64 xbn, .slice Ab1 xbms.length cb1, .slice Ab2 xbns.length cb2, .slice Ab3 xbks.length cb3] 37)) from Kid.made hfx hg.size)
                have HPb := Lib.hid hkx
                have HJb := Lib.hid hjb
                have HKE := Lib.hid ((HKa.out.grown hg HSa.out.2.2).below ((Below.refl wb.heap.size wb).alloc (Nat.le_refl _) (.cells #[.int .i64 xbk, .int .i64 xbn, .slice Ab1 xbms.length cb1, .slice Ab2 xbns.length cb2, .slice Ab3 xbks.length cb3] 37)))
                clear HVa c0 c1 he hkx hfx hat hjb hg HKa
                have HKa := HKE; clear HKE
                go_upto_region 26 with fail
                generalize wb.alloc (.cells #[.int .i64 xbk, .int .i64 xbn, .slice Ab1 xbms.length cb1, .slice Ab2 xbns.length cb2, .slice Ab3 xbks.length cb3] 37) = Wb at *
                generalize wb.heap.size = gb at *
                have HW := Lib.hid (fun V => within_any n 3 7 V HN.out (by omega) (by omega) (by omega))
                obtain ⟨hk1, hk2⟩ := nWithin_in n (lo := 3) (hi := 7) (by omega)
                generalize nWithin n 3 7 = kk at *
                clear HIH HNU h0
                refine wp_region_facts_tail 5 (R := fun a b => Below a.heap.size a b) (G := (fun W => VecAtX k B b w b3 b6 jb W ∧ Kid d wc.heap.size ga (XE.mk xak xan (.slice Aa1 xams.length ca1) xams (.slice Aa2 xans.length ca2) xans (.slice Aa3 xaks.length ca3) xaks) W ∧ Kid d Wa.heap.size gb (XE.mk xbk xbn (.slice Ab1 xbms.length cb1) xbms (.slice Ab2 xbns.length cb2) xbns (.slice Ab3 xbks.length cb3) xbks) W)) (V := fun i' u' W => match i' with | 0 => u' = .int .i64 n | 1 => u' = .int .i64 kk | 2 => u' = .agg #[.int .i64 xak, .int .i64 xan, .slice Aa1 xams.length ca1, .slice Aa2 xans.length ca2, .slice Aa3 xaks.length ca3] | 3 => u' = .agg #[.int .i64 xbk, .int .i64 xbn, .slice Ab1 xbms.length cb1, .slice Ab2 xbns.length cb2, .slice Ab3 xbks.length cb3] | 4 => ∃ g, u' = .slice (some ⟨g, 0, none⟩) 2 2 ∧ Blk W g 37 [.int .i64 xak, .int .i64 xan, .slice Aa1 xams.length ca1, .slice Aa2 xans.length ca2, .slice Aa3 xaks.length ca3, .int .i64 xbk, .int .i64 xbn, .slice Ab1 xbms.length cb1, .slice Ab2 xbns.length cb2, .slice Ab3 xbks.length cb3] ∧ b6 < g | _ => True) (by kernel_rfl) (fun w => Below.refl _ _) (fun a b c h1 h2 => h1.trans (h2.mono h1.size)) (by kernel_rfl) (by kernel_rfl) (by kernel_rfl) (by kernel_rfl) (by decide) (by kernel_rfl) ?hG ⟨?o0, ?o1, ?o2, ?o3, ?o4, trivial⟩ ?hend
                case o0 =>
                  intro a w hfr hG hd
                  refine ⟨fun hw => ?_, fun hw => absurd hw (by simp [Region.wanted])⟩
                  have s8 : a.tmps.getD 8 undef = .int .i64 n := hfr.at 8 (by kernel_rfl)
                  refine op_yields (.int .i64 n) ?_ ?_ ?_
                  · simp only [execOp, resolve, List.map_toArray, List.map_cons, List.map_nil, Act.eval, s8]; simp [go_sem, -Array.getD_eq_getD_getElem?, s8]
                  · exact Below.refl _ _
                  · exact (fun _ _ => rfl)
                case o1 =>
                  intro a w hfr hG hd
                  obtain ⟨d0, _⟩ := hd
                  refine ⟨fun hw => ?_, fun hw => absurd hw (by simp [Region.wanted])⟩
                  have s125 : a.tmps.getD 125 undef = .int .i64 n := (d0 rfl).now
                  refine op_calls2 (((HW.out w).mono (fun e' w' hh => show e' = .returned (.int .i64 kk) ∧ Below w.heap.size w w' from ⟨hh.1, hh.2 ▸ Below.refl _ _⟩)).mono fun e' w' hh => ⟨_, hh.1, hh.2, (fun _ _ => rfl)⟩) ?_
                  simp only [execOp, resolve, List.map_toArray, List.map_cons, List.map_nil, Act.eval, s125]; simp [go_sem, -Array.getD_eq_getD_getElem?, s125]
                case o2 =>
                  intro a w hfr hG hd
                  refine ⟨fun hw => ?_, fun hw => absurd hw (by simp [Region.wanted])⟩
                  have s16 : a.tmps.getD 16 undef = .pointer (some ⟨ga, 0, none⟩) := hfr.at 16 (by kernel_rfl)
                  obtain ⟨x0, x1, x2, x3, x4⟩ := blk_cells5 (show Blk w ga 37 [.int .i64 xak, .int .i64 xan, .slice Aa1 xams.length ca1, .slice Aa2 xans.length ca2, .slice Aa3 xaks.length ca3] from hG.now.2.1.blk)
                  refine op_yields (.agg #[.int .i64 xak, .int .i64 xan, .slice Aa1 xams.length ca1, .slice Aa2 xans.length ca2, .slice Aa3 xaks.length ca3]) ?_ ?_ ?_
                  · simp only [execOp, resolve, List.map_toArray, List.map_cons, List.map_nil, Act.eval, s16]; simp [go_sem, -Array.getD_eq_getD_getElem?, s16, x0, x1, x2, x3, x4]
                  · exact Below.refl _ _
                  · exact (fun _ _ => rfl)
                case o3 =>
                  intro a w hfr hG hd
                  refine ⟨fun hw => ?_, fun hw => absurd hw (by simp [Region.wanted])⟩
                  have s17 : a.tmps.getD 17 undef = .pointer (some ⟨gb, 0, none⟩) := hfr.at 17 (by kernel_rfl)
                  obtain ⟨x0, x1, x2, x3, x4⟩ := blk_cells5 (show Blk w gb 37 [.int .i64 xbk, .int .i64 xbn, .slice Ab1 xbms.length cb1, .slice Ab2 xbns.length cb2, .slice Ab3 xbks.length cb3] from hG.now.2.2.blk)
                  refine op_yields (.agg #[.int .i64 xbk, .int .i64 xbn, .slice Ab1 xbms.length cb1, .slice Ab2 xbns.length cb2, .slice Ab3 xbks.length cb3]) ?_ ?_ ?_
                  · simp only [execOp, resolve, List.map_toArray, List.map_cons, List.map_nil, Act.eval, s17]; simp [go_sem, -Array.getD_eq_getD_getElem?, s17, x0, x1, x2, x3, x4]
                  · exact Below.refl _ _
                  · exact (fun _ _ => rfl)
                case o4 =>
                  intro a w hfr hG hd
                  obtain ⟨d0, d1, _⟩ := hd
                  refine ⟨fun hw => ?_, fun hw => absurd hw (by simp [Region.wanted])⟩
                  have s127 : a.tmps.getD 127 undef = .agg #[.int .i64 xak, .int .i64 xan, .slice Aa1 xams.length ca1, .slice Aa2 xans.length ca2, .slice Aa3 xaks.length ca3] := (d0 rfl).now
                  have s128 : a.tmps.getD 128 undef = .agg #[.int .i64 xbk, .int .i64 xbn, .slice Ab1 xbms.length cb1, .slice Ab2 xbns.length cb2, .slice Ab3 xbks.length cb3] := (d1 rfl).now
                  exact op_makes (.slice (some ⟨w.heap.size, 0, none⟩) 2 2) (w' := w.alloc (.cells #[.int .i64 xak, .int .i64 xan, .slice Aa1 xams.length ca1, .slice Aa2 xans.length ca2, .slice Aa3 xaks.length ca3, .int .i64 xbk, .int .i64 xbn, .slice Ab1 xbms.length cb1, .slice Ab2 xbns.length cb2, .slice Ab3 xbks.length cb3] 37)) (by simp only [execOp, resolve, List.map_toArray, List.map_cons, List.map_nil, Act.eval, s127, s128]; simp [go_sem, -Array.getD_eq_getD_getElem?, s127, s128]) ((Below.refl _ _).alloc (Nat.le_refl _) _) (fun W' hW' => ⟨_, rfl, (Blk.mk (heap_alloc_new _ _) : Blk _ _ _ _).below hW' (by simp), hG.now.1.res.lt⟩)
                case hG => exact fun w' hb => ⟨HVb.out.below ((Below.refl _ _).drew.trans (hb.mono (by simp))), HKa.out.below ((Below.refl _ _).drew.trans (hb.mono (by simp))), HKb.out.below ((Below.refl _ _).drew.trans (hb.mono (by simp)))⟩
                case hend =>
                  intro vs w' hG hv
                  have key : vs 1 = .int .i64 kk ∧ ∃ g, vs 4 = .slice (some ⟨g, 0, none⟩) 2 2 ∧ Blk w' g 37 [.int .i64 xak, .int .i64 xan, .slice Aa1 xams.length ca1, .slice Aa2 xans.length ca2, .slice Aa3 xaks.length ca3, .int .i64 xbk, .int .i64 xbn, .slice Ab1 xbms.length cb1, .slice Ab2 xbns.length cb2, .slice Ab3 xbks.length cb3] ∧ b6 < g := by
                    obtain ⟨_, h1, _, _, h4, _⟩ := hv
                    exact ⟨h1.now, h4.now⟩
                  obtain ⟨hvx, hka, hkb⟩ := hG.now
                  have HVX := Lib.hid hvx
                  have HKA := Lib.hid hka
                  have HKB := Lib.hid hkb
                  clear hvx hka hkb hv hG HVb HKa HKb HW
                  obtain ⟨e1, g, e4, hrow, hbg⟩ := key
                  have HR := Lib.hid hrow
                  clear hrow
                  obtain ⟨y0, y1, y2, y3, y4⟩ := blk_cells5 HVX.out.res
                  obtain ⟨z0, z1, z2, z3, z4⟩ := blk_fr5 HVX.out.res
                  have HQ := Lib.hid (set5W_blk HVX.out.res (.int .i64 kk) (.int .i64 0) (.slice none 0 0) (.slice none 0 0) (.slice (some ⟨g, 0, none⟩) 2 2))
                  have HFN := Lib.hid (HVX.out.pair2 (d := d) (i := i) (K := keepV (d + 1)) kk (XE.mk xak xan (.slice Aa1 xams.length ca1) xams (.slice Aa2 xans.length ca2) xans (.slice Aa3 xaks.length ca3) xaks) (XE.mk xbk xbn (.slice Ab1 xbms.length cb1) xbms (.slice Ab2 xbns.length cb2) xbns (.slice Ab3 xbks.length cb3) xbks) (fun g => .inr (.inr (.inr (.inl ⟨hk1, hk2, rfl, rfl, rfl, _, _, rfl, HPa.out, HPb.out⟩)))) HR.out hbg (HKA.out.s0 HSa.out.1 HSa.out.2.1) (HKB.out.s0 HSb.out.1 HSb.out.2.1) (by have := HJa.out; have := HJb.out; omega))
                  change wpList _ _ _ [_, _] (putAll vs 0 [_, _, _, _, _] _) _
                  simp only [putAll, Act.put, e1, e4]
                  clear e1 e4 HR
                  go_wp2_with fail
                  obtain ⟨q0, q1, q2, q3, q4⟩ := blk_cells5 HQ.out
                  unfold set5W at q0 q1 q2 q3 q4
                  refine bodyPost_ret (v := (pairX kk g (XE.mk xak xan (.slice Aa1 xams.length ca1) xams (.slice Aa2 xans.length ca2) xans (.slice Aa3 xaks.length ca3) xaks) (XE.mk xbk xbn (.slice Ab1 xbms.length cb1) xbms (.slice Ab2 xbns.length cb2) xbns (.slice Ab3 xbks.length cb3) xbks)).val) (by simp [XE.val, pairX, XE.kd, XE.n, XE.mv, XE.nv, XE.kv, results, Tryz.results44, go_sem, q0, q1, q2, q3, q4]) rfl ?_
                  exact HFN.out
              · --done8
                obtain ⟨c0, c1⟩ := ok_box2 HV2.out
                have HSa := Lib.hid (show w.heap.size ≤ wc.heap.size ∧ b6 < wc.heap.size ∧ b < wc.heap.size from ⟨HV2.out.gr.size, HV2.out.res.lt, HV2.out.at_.lt⟩)
                go_wp2_with fail
                (with_reducible refine (HIH.out (i + 1) _ HV2.out.ok HV2.out.at_ (by have := HI.out; omega) h0).mono ?_); rintro e wa ⟨⟨xak, xan, xamv, xams, xanv, xans, xakv, xaks⟩, ja, he, hkx, hfx, hat, hja, hg⟩
                obtain ⟨Aa1, ca1, Aa2, ca2, Aa3, ca3, e1, e2, e3⟩ := okX_forms hfx.now
                simp only [XE.mv, XE.nv, XE.kv, XE.ms, XE.ns, XE.kids] at e1 e2 e3
                subst e1; subst e2; subst e3
                have he2 : e = .returned (.agg #[.int .i64 xak, .int .i64 xan, .slice Aa1 xams.length ca1, .slice Aa2 xans.length ca2, .slice Aa3 xaks.length ca3]) := he
                subst he2
                have HVa := Lib.hid ((HV2.out.grown hg hat).alloc (.cells #[.int .i64 xak, .int .i64 xan, .slice Aa1 xams.length ca1, .slice Aa2 xans.length ca2, .slice Aa3 xaks.length ca3] 37))
                have HKa := Lib.hid (show Kid d wc.heap.size wa.heap.size (XE.mk xak xan (.slice Aa1 xams.length ca1) xams (.slice Aa2 xans.length ca2) xans (.slice Aa3 xaks.length ca3) xaks) (wa.alloc (.cells #[.int .i64 xak, .int .i64 xan, .slice Aa1 xams.length ca1, .slice Aa2 xans.length ca2, .slice Aa3 xaks.length ca3] 37)) from Kid.made hfx hg.size)
                have HPa := Lib.hid hkx
                have HJa := Lib.hid hja
                clear HV2 c0 c1 he hkx hfx hat hja hg
                go_upto_region 29 with fail
                generalize wa.alloc (.cells #[.int .i64 xak, .int .i64 xan, .slice Aa1 xams.length ca1, .slice Aa2 xans.length ca2, .slice Aa3 xaks.length ca3] 37) = Wa at *
                generalize wa.heap.size = ga at *
                obtain ⟨c0, c1⟩ := ok_box2 HVa.out
                have HSb := Lib.hid (show w.heap.size ≤ Wa.heap.size ∧ b6 < Wa.heap.size ∧ b < Wa.heap.size from ⟨HVa.out.gr.size, HVa.out.res.lt, HVa.out.at_.lt⟩)
                go_wp2_with fail
                (with_reducible refine (HIH.out ja _ HVa.out.ok HVa.out.at_ (by have := HI.out; have := HJa.out; omega) h0).mono ?_); rintro e wb ⟨⟨xbk, xbn, xbmv, xbms, xbnv, xbns, xbkv, xbks⟩, jb, he, hkx, hfx, hat, hjb, hg⟩
                obtain ⟨Ab1, cb1, Ab2, cb2, Ab3, cb3, e1, e2, e3⟩ := okX_forms hfx.now
                simp only [XE.mv, XE.nv, XE.kv, XE.ms, XE.ns, XE.kids] at e1 e2 e3
                subst e1; subst e2; subst e3
                have he2 : e = .returned (.agg #[.int .i64 xbk, .int .i64 xbn, .slice Ab1 xbms.length cb1, .slice Ab2 xbns.length cb2, .slice Ab3 xbks.length cb3]) := he
                subst he2
                have HVb := Lib.hid ((HVa.out.grown hg hat).alloc (.cells #[.int .i64 xbk, .int .i64 xbn, .slice Ab1 xbms.length cb1, .slice Ab2 xbns.length cb2, .slice Ab3 xbks.length cb3] 37))
                have HKb := Lib.hid (show Kid d Wa.heap.size wb.heap.size (XE.mk xbk xbn (.slice Ab1 xbms.length cb1) xbms (.slice Ab2 xbns.length cb2) xbns (.slice Ab3 xbks.length cb3) xbks) (wb.alloc (.cells #[.int .i64 xbk, .int .i64 xbn, .slice Ab1 xbms.length cb1, .slice Ab2 xbns.length cb2, .slice Ab3 xbks.length cb3] 37)) from Kid.made hfx hg.size)
                have HPb := Lib.hid hkx
                have HJb := Lib.hid hjb
                have HKE := Lib.hid ((HKa.out.grown hg HSa.out.2.2).below ((Below.refl wb.heap.size wb).alloc (Nat.le_refl _) (.cells #[.int .i64 xbk, .int .i64 xbn, .slice Ab1 xbms.length cb1, .slice Ab2 xbns.length cb2, .slice Ab3 xbks.length cb3] 37)))
                clear HVa c0 c1 he hkx hfx hat hjb hg HKa
                have HKa := HKE; clear HKE
                go_upto_region 30 with fail
                generalize wb.alloc (.cells #[.int .i64 xbk, .int .i64 xbn, .slice Ab1 xbms.length cb1, .slice Ab2 xbns.length cb2, .slice Ab3 xbks.length cb3] 37) = Wb at *
                generalize wb.heap.size = gb at *
                have HW := Lib.hid (fun V => within_any n 3 7 V HN.out (by omega) (by omega) (by omega))
                obtain ⟨hk1, hk2⟩ := nWithin_in n (lo := 3) (hi := 7) (by omega)
                generalize nWithin n 3 7 = kk at *
                clear HIH HNU h0
                refine wp_region_facts_tail 5 (R := fun a b => Below a.heap.size a b) (G := (fun W => VecAtX k B b w b3 b6 jb W ∧ Kid d wc.heap.size ga (XE.mk xak xan (.slice Aa1 xams.length ca1) xams (.slice Aa2 xans.length ca2) xans (.slice Aa3 xaks.length ca3) xaks) W ∧ Kid d Wa.heap.size gb (XE.mk xbk xbn (.slice Ab1 xbms.length cb1) xbms (.slice Ab2 xbns.length cb2) xbns (.slice Ab3 xbks.length cb3) xbks) W)) (V := fun i' u' W => match i' with | 0 => u' = .int .i64 n | 1 => u' = .int .i64 kk | 2 => u' = .agg #[.int .i64 xak, .int .i64 xan, .slice Aa1 xams.length ca1, .slice Aa2 xans.length ca2, .slice Aa3 xaks.length ca3] | 3 => u' = .agg #[.int .i64 xbk, .int .i64 xbn, .slice Ab1 xbms.length cb1, .slice Ab2 xbns.length cb2, .slice Ab3 xbks.length cb3] | 4 => ∃ g, u' = .slice (some ⟨g, 0, none⟩) 2 2 ∧ Blk W g 37 [.int .i64 xak, .int .i64 xan, .slice Aa1 xams.length ca1, .slice Aa2 xans.length ca2, .slice Aa3 xaks.length ca3, .int .i64 xbk, .int .i64 xbn, .slice Ab1 xbms.length cb1, .slice Ab2 xbns.length cb2, .slice Ab3 xbks.length cb3] ∧ b6 < g | _ => True) (by kernel_rfl) (fun w => Below.refl _ _) (fun a b c h1 h2 => h1.trans (h2.mono h1.size)) (by kernel_rfl) (by kernel_rfl) (by kernel_rfl) (by kernel_rfl) (by decide) (by kernel_rfl) ?hG ⟨?o0, ?o1, ?o2, ?o3, ?o4, trivial⟩ ?hend
                case o0 =>
                  intro a w hfr hG hd
                  refine ⟨fun hw => ?_, fun hw => absurd hw (by simp [Region.wanted])⟩
                  have s8 : a.tmps.getD 8 undef = .int .i64 n := hfr.at 8 (by kernel_rfl)
                  refine op_yields (.int .i64 n) ?_ ?_ ?_
                  · simp only [execOp, resolve, List.map_toArray, List.map_cons, List.map_nil, Act.eval, s8]; simp [go_sem, -Array.getD_eq_getD_getElem?, s8]
                  · exact Below.refl _ _
                  · exact (fun _ _ => rfl)
                case o1 =>
                  intro a w hfr hG hd
                  obtain ⟨d0, _⟩ := hd
                  refine ⟨fun hw => ?_, fun hw => absurd hw (by simp [Region.wanted])⟩
                  have s143 : a.tmps.getD 143 undef = .int .i64 n := (d0 rfl).now
                  refine op_calls2 (((HW.out w).mono (fun e' w' hh => show e' = .returned (.int .i64 kk) ∧ Below w.heap.size w w' from ⟨hh.1, hh.2 ▸ Below.refl _ _⟩)).mono fun e' w' hh => ⟨_, hh.1, hh.2, (fun _ _ => rfl)⟩) ?_
                  simp only [execOp, resolve, List.map_toArray, List.map_cons, List.map_nil, Act.eval, s143]; simp [go_sem, -Array.getD_eq_getD_getElem?, s143]
                case o2 =>
                  intro a w hfr hG hd
                  refine ⟨fun hw => ?_, fun hw => absurd hw (by simp [Region.wanted])⟩
                  have s18 : a.tmps.getD 18 undef = .pointer (some ⟨ga, 0, none⟩) := hfr.at 18 (by kernel_rfl)
                  obtain ⟨x0, x1, x2, x3, x4⟩ := blk_cells5 (show Blk w ga 37 [.int .i64 xak, .int .i64 xan, .slice Aa1 xams.length ca1, .slice Aa2 xans.length ca2, .slice Aa3 xaks.length ca3] from hG.now.2.1.blk)
                  refine op_yields (.agg #[.int .i64 xak, .int .i64 xan, .slice Aa1 xams.length ca1, .slice Aa2 xans.length ca2, .slice Aa3 xaks.length ca3]) ?_ ?_ ?_
                  · simp only [execOp, resolve, List.map_toArray, List.map_cons, List.map_nil, Act.eval, s18]; simp [go_sem, -Array.getD_eq_getD_getElem?, s18, x0, x1, x2, x3, x4]
                  · exact Below.refl _ _
                  · exact (fun _ _ => rfl)
                case o3 =>
                  intro a w hfr hG hd
                  refine ⟨fun hw => ?_, fun hw => absurd hw (by simp [Region.wanted])⟩
                  have s19 : a.tmps.getD 19 undef = .pointer (some ⟨gb, 0, none⟩) := hfr.at 19 (by kernel_rfl)
                  obtain ⟨x0, x1, x2, x3, x4⟩ := blk_cells5 (show Blk w gb 37 [.int .i64 xbk, .int .i64 xbn, .slice Ab1 xbms.length cb1, .slice Ab2 xbns.length cb2, .slice Ab3 xbks.length cb3] from hG.now.2.2.blk)
                  refine op_yields (.agg #[.int .i64 xbk, .int .i64 xbn, .slice Ab1 xbms.length cb1, .slice Ab2 xbns.length cb2, .slice Ab3 xbks.length cb3]) ?_ ?_ ?_
                  · simp only [execOp, resolve, List.map_toArray, List.map_cons, List.map_nil, Act.eval, s19]; simp [go_sem, -Array.getD_eq_getD_getElem?, s19, x0, x1, x2, x3, x4]
                  · exact Below.refl _ _
                  · exact (fun _ _ => rfl)
                case o4 =>
                  intro a w hfr hG hd
                  obtain ⟨d0, d1, _⟩ := hd
                  refine ⟨fun hw => ?_, fun hw => absurd hw (by simp [Region.wanted])⟩
                  have s145 : a.tmps.getD 145 undef = .agg #[.int .i64 xak, .int .i64 xan, .slice Aa1 xams.length ca1, .slice Aa2 xans.length ca2, .slice Aa3 xaks.length ca3] := (d0 rfl).now
                  have s146 : a.tmps.getD 146 undef = .agg #[.int .i64 xbk, .int .i64 xbn, .slice Ab1 xbms.length cb1, .slice Ab2 xbns.length cb2, .slice Ab3 xbks.length cb3] := (d1 rfl).now
                  exact op_makes (.slice (some ⟨w.heap.size, 0, none⟩) 2 2) (w' := w.alloc (.cells #[.int .i64 xak, .int .i64 xan, .slice Aa1 xams.length ca1, .slice Aa2 xans.length ca2, .slice Aa3 xaks.length ca3, .int .i64 xbk, .int .i64 xbn, .slice Ab1 xbms.length cb1, .slice Ab2 xbns.length cb2, .slice Ab3 xbks.length cb3] 37)) (by simp only [execOp, resolve, List.map_toArray, List.map_cons, List.map_nil, Act.eval, s145, s146]; simp [go_sem, -Array.getD_eq_getD_getElem?, s145, s146]) ((Below.refl _ _).alloc (Nat.le_refl _) _) (fun W' hW' => ⟨_, rfl, (Blk.mk (heap_alloc_new _ _) : Blk _ _ _ _).below hW' (by simp), hG.now.1.res.lt⟩)
                case hG => exact fun w' hb => ⟨HVb.out.below ((Below.refl _ _).drew.trans (hb.mono (by simp))), HKa.out.below ((Below.refl _ _).drew.trans (hb.mono (by simp))), HKb.out.below ((Below.refl _ _).drew.trans (hb.mono (by simp)))⟩
                case hend =>
                  intro vs w' hG hv
                  have key : vs 1 = .int .i64 kk ∧ ∃ g, vs 4 = .slice (some ⟨g, 0, none⟩) 2 2 ∧ Blk w' g 37 [.int .i64 xak, .int .i64 xan, .slice Aa1 xams.length ca1, .slice Aa2 xans.length ca2, .slice Aa3 xaks.length ca3, .int .i64 xbk, .int .i64 xbn, .slice Ab1 xbms.length cb1, .slice Ab2 xbns.length cb2, .slice Ab3 xbks.length cb3] ∧ b6 < g := by
                    obtain ⟨_, h1, _, _, h4, _⟩ := hv
                    exact ⟨h1.now, h4.now⟩
                  obtain ⟨hvx, hka, hkb⟩ := hG.now
                  have HVX := Lib.hid hvx
                  have HKA := Lib.hid hka
                  have HKB := Lib.hid hkb
                  clear hvx hka hkb hv hG HVb HKa HKb HW
                  obtain ⟨e1, g, e4, hrow, hbg⟩ := key
                  have HR := Lib.hid hrow
                  clear hrow
                  obtain ⟨y0, y1, y2, y3, y4⟩ := blk_cells5 HVX.out.res
                  obtain ⟨z0, z1, z2, z3, z4⟩ := blk_fr5 HVX.out.res
                  have HQ := Lib.hid (set5W_blk HVX.out.res (.int .i64 kk) (.int .i64 0) (.slice none 0 0) (.slice none 0 0) (.slice (some ⟨g, 0, none⟩) 2 2))
                  have HFN := Lib.hid (HVX.out.pair2 (d := d) (i := i) (K := keepV (d + 1)) kk (XE.mk xak xan (.slice Aa1 xams.length ca1) xams (.slice Aa2 xans.length ca2) xans (.slice Aa3 xaks.length ca3) xaks) (XE.mk xbk xbn (.slice Ab1 xbms.length cb1) xbms (.slice Ab2 xbns.length cb2) xbns (.slice Ab3 xbks.length cb3) xbks) (fun g => .inr (.inr (.inl ⟨(by omega : (3 : Int) ≤ kk), (by omega : kk ≤ 16), rfl, rfl, rfl, _, _, rfl, HPa.out, HPb.out⟩))) HR.out hbg (HKA.out.s0 HSa.out.1 HSa.out.2.1) (HKB.out.s0 HSb.out.1 HSb.out.2.1) (by have := HJa.out; have := HJb.out; omega))
                  change wpList _ _ _ [_, _] (putAll vs 0 [_, _, _, _, _] _) _
                  simp only [putAll, Act.put, e1, e4]
                  clear e1 e4 HR
                  go_wp2_with fail
                  obtain ⟨q0, q1, q2, q3, q4⟩ := blk_cells5 HQ.out
                  unfold set5W at q0 q1 q2 q3 q4
                  refine bodyPost_ret (v := (pairX kk g (XE.mk xak xan (.slice Aa1 xams.length ca1) xams (.slice Aa2 xans.length ca2) xans (.slice Aa3 xaks.length ca3) xaks) (XE.mk xbk xbn (.slice Ab1 xbms.length cb1) xbms (.slice Ab2 xbns.length cb2) xbns (.slice Ab3 xbks.length cb3) xbks)).val) (by simp [XE.val, pairX, XE.kd, XE.n, XE.mv, XE.nv, XE.kv, results, Tryz.results44, go_sem, q0, q1, q2, q3, q4]) rfl ?_
                  exact HFN.out
              · --done9
                go_upto_region 32 with fail
                go_wp2_with fail
                (with_reducible refine (names_any _).mono ?_); rintro e wn ⟨rfl, hwn⟩
                have HBN := Lib.hid (show Below wc.heap.size wc wn by rw [← hwn]; exact (Below.refl _ _).alloc (Nat.le_refl _) _)
                have HNB := Lib.hid (show Blk wn wc.heap.size 9 (strs keepNames) by rw [← hwn]; exact Blk.mk (heap_alloc_new wc _))
                have HV5 := Lib.hid (HV2.out.below HBN.out)
                have hgb : b6 < wc.heap.size := HV2.out.res.lt
                generalize wc.heap.size = gn at *
                clear hwn HBN HV2
                go_upto_region 33 with fail
                go_loopg [20, 151] 4 (fun g x20 x151 wr => ∃ (q m : Nat) (A : Option Addr) (cx : Nat) (ns : List ByteArray), q + g = 4 ∧ x151 = .int .i64 q ∧ x20 = .slice A m cx ∧ ns.length = m ∧ m ≤ q ∧ List.Sublist ns (keepNames.take q) ∧ wr.ownsRow (gn + 1) 9 1 (.slice A m cx) m (strs ns) ∧ VecAtX k B b w b3 b6 (i + 1) wr ∧ Blk wr gn 9 (strs keepNames))
                case atStart => exact ⟨0, 0, none, 0, [], by omega, rfl, rfl, rfl, by omega, List.Sublist.refl _, World.ownsRow_nil _ _ _ _, HV5.out, HNB.out⟩
                case round =>
                  obtain ⟨q, m, A, cx, ns, hqg, rfl, rfl, hnl, hmq, hsub, hrow, hat, hbn⟩ := hrel
                  have HRW := Lib.hid hrow
                  have HVR := Lib.hid hat
                  have HBN := Lib.hid hbn
                  have HSU := Lib.hid hsub
                  have HNL := Lib.hid hnl
                  clear hrow hat hbn hsub hnl HV5 HNB
                  cases gk with
                  | zero =>
                    obtain rfl : q = 4 := by omega
                    have HNS := Lib.hid (show keepNs ns from HSU.out)
                    have hsz := HVR.out.gr.size
                    have HVL := Lib.hid HVR.out.lt
                    have hgl := HBN.out.lt
                    have HFN := Lib.hid (show FarS (fun c => c ≤ gn) (fun W => Slc W 1 (.slice A m cx) m (strs ns)) wr from FarS.own HRW.out (fun g hg e => by have := (HRW.out.lt g hg).1; omega))
                    clear HRW HSU HBN hsz
                    obtain ⟨q16, hq16⟩ : ∃ q, n.tdiv 16 = q := ⟨_, rfl⟩
                    have hi16 : I64 q16 := by rw [← hq16]; exact I64_tdiv HN.out (by decide)
                    obtain ⟨hk1, hk2⟩ := nWithin_in q16 (lo := 17) (hi := 20) (by omega)
                    have HW := Lib.hid (fun V => within_any q16 17 20 V hi16 (by omega) (by omega) (by omega))
                    generalize nWithin q16 17 20 = kk at *
                    have w16 : IntKind.i64.wrap q16 = q16 := by unfold I64 at hi16; rw [IntKind.wrap_i64]; omega
                    have h16 : (4 : Int) ≤ ((4 : Nat) : Int) := by omega
                    have hde : IntKind.i64.wrap ((deep : Int) + 1) = (deep : Int) + 1 := by rw [IntKind.wrap_i64]; omega
                    go_upto_region 38 with fail
                    have HDS := Lib.hid (HIH.out (i + 1) wr.drew HVR.out.drew.ok HVR.out.drew.at_ (by have := HI.out; omega) h0)
                    have HDL := Lib.hid (show w.heap.size ≤ wr.drew.heap.size ∧ b6 < wr.drew.heap.size from ⟨HVR.out.gr.size, HVR.out.res.lt⟩)
                    have Z := Lib.hid HVR.out.drew
                    have ZF := Lib.hid (show FarS (fun c => c ≤ gn) (fun W => Slc W 1 (.slice A m cx) m (strs ns)) wr.drew from HFN.out.below (Below.refl _ _).drew)
                    have tok1 : True := trivial
                    have tok2 : True := trivial
                    obtain ⟨c0, c1⟩ := ok_box2 HVR.out
                    clear HVR HFN HIH HNU h0
                    go_region_law (first
                      | (have tk := tok1; (try go_simp); go_at_call 17; (with_reducible refine (HW.out _).mono ?_); rintro e wz ⟨rfl, rfl⟩; clear tok1 tk HW)
                      | (have tk := tok2; (try go_simp); go_at_call 44; (with_reducible refine HDS.out.mono ?_); rintro e wq ⟨⟨xk, xn, xmv, xms, xnv, xns, xkv, xks⟩, j, he, hkx, hfx, hatq, hjq, hgq⟩; obtain ⟨A1, c1, A2, c2, A3, c3, e1, e2, e3⟩ := okX_forms hfx.now; simp only [XE.mv, XE.nv, XE.kv, XE.ms, XE.ns, XE.kids] at e1 e2 e3; subst e1; subst e2; subst e3; have he2 : e = .returned (.agg #[.int .i64 xk, .int .i64 xn, .slice A1 xms.length c1, .slice A2 xns.length c2, .slice A3 xks.length c3]) := he; subst he2; have HKX := Lib.hid hkx; have HFX := Lib.hid hfx; have HJ := Lib.hid hjq; have Z_n := Lib.hid (Z.out.grown hgq hatq); have ZF_n := Lib.hid (ZF.out.grown hgq (fun g hg => by injection hg with hg; have := HVL.out; omega)); clear Z ZF he hkx hfx hjq hatq hgq HDS tok2 tk; have Z := Z_n; have ZF := ZF_n; clear Z_n ZF_n; obtain ⟨y0, y1, y2, y3, y4⟩ := blk_cells5 (Z.out.alloc (.cells #[.int .i64 xk, .int .i64 xn, .slice A1 xms.length c1, .slice A2 xns.length c2, .slice A3 xks.length c3] 37)).res; obtain ⟨z0, z1, z2, z3, z4⟩ := blk_fr5 (Z.out.alloc (.cells #[.int .i64 xk, .int .i64 xn, .slice A1 xms.length c1, .slice A2 xns.length c2, .slice A3 xks.length c3] 37)).res)
                      | fail)
                    all_goals
                      have HQ := Lib.hid (set5W_blk (Z.out.alloc (.cells #[.int .i64 xk, .int .i64 xn, .slice A1 xms.length c1, .slice A2 xns.length c2, .slice A3 xks.length c3] 37)).res (.int .i64 kk) (.int .i64 0) (.slice none 0 0) (.slice A m cx) (.slice (some ⟨wq.heap.size, 0, none⟩) 1 1))
                      have HFN := Lib.hid (Z.out.one (d := d) (i := i) (K := keepV (d + 1)) kk (.mk xk xn (.slice A1 xms.length c1) xms (.slice A2 xns.length c2) xns (.slice A3 xks.length c3) xks) (nv := .slice A m cx) (ns := ns) (fun g => .inr (.inr (.inr (.inr ⟨hk1, hk2, rfl, rfl, HNS.out, _, rfl, HKX.out⟩)))) (by rw [HNL.out]; exact ZF.out.mono (fun c _ hc => by have := HVL.out; rcases hc with hc | hc <;> omega)) (HFX.out.mono (fun c _ hc => by have := HDL.out; rcases hc with hc | hc <;> omega)) (by have := HJ.out; have := HP.out; omega))
                      go_wp2_with fail
                      obtain ⟨q0, q1, q2, q3, q4⟩ := blk_cells5 HQ.out
                      unfold set5W at q0 q1 q2 q3 q4
                      refine bodyPost_ret (v := (oneX kk wq.heap.size (.slice A m cx) ns (.mk xk xn (.slice A1 xms.length c1) xms (.slice A2 xns.length c2) xns (.slice A3 xks.length c3) xks)).val) (by simp [XE.val, oneX, XE.kd, XE.n, XE.mv, XE.nv, XE.kv, results, Tryz.results44, go_sem, q0, q1, q2, q3, q4]) rfl ?_
                      exact HFN.out
                  | succ g =>
                    have hq4 : q < 4 := by omega
                    have hq4i : (q : Int) < 4 := by omega
                    have hq0 : (0 : Int) ≤ q := by omega
                    obtain ⟨nm, hnm⟩ : ∃ nm, keepNames[q]? = some nm := ⟨_, List.getElem?_eq_getElem (show q < keepNames.length from hq4)⟩
                    have e0 : wr.cell? ⟨gn, q, none⟩ = some (.string nm) := by
                      rw [HBN.out.cell q]
                      unfold strs
                      rw [List.getElem?_map, hnm]; rfl
                    have HNM := Lib.hid hnm
                    clear hnm
                    have HTK := Lib.hid (show keepNames.take (q + 1) = keepNames.take q ++ [nm] by rw [List.take_add_one, HNM.out]; rfl)
                    obtain ⟨gb, hgb⟩ : ∃ gb, (bits BinOp.and IntKind.i64 (n / 2 ^ q) 1 == 1) = gb := ⟨_, rfl⟩
                    cases gb with
                    | false =>
                      have HS2 := Lib.hid (show List.Sublist ns (keepNames.take (q + 1)) by rw [HTK.out]; exact HSU.out.trans (List.sublist_append_left _ _))
                      go_wp2_with fail
                      go_roundg g
                      case measure => omega
                      case rel => exact ⟨q + 1, m, A, cx, ns, by omega, by go_num, rfl, HNL.out, by omega, HS2.out, HRW.out, HVR.out, HBN.out⟩
                    | true =>
                      have HS2 := Lib.hid (show List.Sublist (ns ++ [nm]) (keepNames.take (q + 1)) by rw [HTK.out]; exact HSU.out.append (List.Sublist.refl _))
                      obtain ⟨i0, hi0, hz0, hz1, hz2⟩ := info_parts Tryz.infoStr5
                      have HRA := Lib.hid (own_below HRW.out ((Below.refl wr.heap.size wr).alloc (Nat.le_refl _) (.cells #[.string nm] 9)) (Nat.le_refl _))
                      have HVA := Lib.hid (HVR.out.alloc (.cells #[.string nm] 9))
                      have HBA := Lib.hid (HBN.out.alloc (.cells #[.string nm] 9))
                      have HX := Lib.hid (show Sees (wr.alloc (.cells #[.string nm] 9)) (wr.alloc (.cells #[.string nm] 9)).heap.size 1 (some ⟨wr.heap.size, 0, none⟩) 1 [.string nm] from (Blk.mk (heap_alloc_new wr _) : Blk _ wr.heap.size 9 [.string nm]).sees rfl (List.prefix_refl _))
                      have hbs : gn + 1 ≤ (wr.alloc (.cells #[.string nm] 9)).heap.size := Nat.succ_le_of_lt HBA.out.lt
                      have hxg : ∀ g, (Value.slice A m cx).ownBlock = some g → gn + 1 ≤ g := fun g hg => (HRW.out.lt g hg).1
                      have HXG := Lib.hid hxg
                      clear HRW HVR HBN HSU HNM HTK hxg
                      go_wp2_with (at_builtin; refine wpList_append_at rfl (.tmp 161) (.tmp 163) 34 rfl (gn + 1) 9 i0 (.string ⟨#[]⟩) 1 16 Tryz.underlying34 hi0 hz0 hz1 hz2 rfl (by decide) (.slice A m cx) m (strs ns) rfl HRA.out _ _ 1 1 [.string nm] rfl HX.out (by simp [Value.oneCell']) (by unfold maxLen; omega) (by omega) hbs ?_)
                      intro v3 w3 hown3 hgr3 hwh3
                      obtain ⟨A3, c3, rfl, _, _⟩ := own_slice hown3
                      have HO3 := Lib.hid (show w3.ownsRow (gn + 1) 9 1 (.slice A3 (m + 1) c3) (m + 1) (strs (ns ++ [nm])) by unfold strs at hown3 ⊢; rw [List.map_append]; exact hown3)
                      have HV3 := Lib.hid (HVA.out.farRow hgr3 (fun g hg => by have := HXG.out g hg; omega))
                      have HB3 := Lib.hid (HBA.out.grown hgr3 (fun e => by have := HXG.out gn e.symm; omega))
                      have HL3 := Lib.hid (show (ns ++ [nm]).length = m + 1 by rw [List.length_append, HNL.out]; rfl)
                      clear hown3 hgr3 hwh3 HRA HVA HBA HX HNL
                      go_wp2_with fail
                      go_roundg g
                      case measure => omega
                      case rel => exact ⟨q + 1, m + 1, A3, c3, ns ++ [nm], by omega, by go_num, rfl, HL3.out, by omega, HS2.out, HO3.out, HV3.out, HB3.out⟩
theorem vector_any (k : KSet) (b B : Nat) (hB : B ≤ b) (d : Nat) (hd : 0 < d) : VecSaid k b B d := by
  induction d with
  | zero => omega
  | succ d ih => exact vector_step k b B hB d ih
end Go.Proofs.YtlmakdclebbbkaaGreat
