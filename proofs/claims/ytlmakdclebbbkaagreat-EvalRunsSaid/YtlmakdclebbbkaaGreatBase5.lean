/- Texts, merged in one. -/
import Derived.Test.YtlmakdclebbbkaaGreatBase4
import Derived.Test.YtlmakdclebbbkaaGreatBase
import Derived.WalkKit
import Derived.ProofKit
import Derived.ChangeArms
import Derived.Laws.CopyOwn
import Derived.Lib.Hide
import Derived.Test.YtlmakdclebbbkaaGreatBase2
import Derived.Test.YtlmakdclebbbkaaGreatRows
import Derived.Lib.SmallJoins
import Derived.Deep.CutBlock
import Derived.Deep.RegionHeld3
import Derived.Deep.DeepCutAuto
import Derived.Lib.Overlaps
import Derived.Lib.AppendZerosOnto
namespace Go.Proofs.YtlmakdclebbbkaaGreat
open Go.ChangeShapes Go.WideShapes Go.ChangeAt Go.RowKit
set_option linter.unusedVariables false
set_option maxRecDepth 100000
set_option maxHeartbeats 4000000 in
theorem keep_any (A0 AN : Option Addr) (n c nn cn B BN : Nat) (l : List (ByteArray × ByteArray)) (ns : List ByteArray) (w : World) (h : Sees w B 2 A0 n (lbls l)) (hB : B ≤ w.heap.size) (hn : n ≤ 100000) (hN : Sees w BN 1 AN nn (strs ns)) (hBN : BN ≤ w.heap.size) (hnn : nn ≤ 9223372036854775807) :
    Calls Tryz.prog 148 #[.slice A0 n c, .slice AN nn cn] w (OwnAns 25 2 (l.filter fun x => hasS ns x.1).length (lbls (l.filter fun x => hasS ns x.1)) w) := by
  obtain ⟨i0, hi0, hz0, hz1, hz2⟩ := info_parts Tryz.infoLabel
  have H := Lib.hid h
  have HL := Lib.hid h.lbl_len
  have HN := Lib.hid hN
  clear h hN
  obtain ⟨P, hP⟩ : ∃ P : ByteArray × ByteArray → Bool, (fun x => hasS ns x.1) = P := ⟨_, rfl⟩
  rw [hP]
  have HP := Lib.hid (fun x => congrFun hP x)
  clear hP
  go_enter Tryz.func148, Tryz.ntmps148
  go_wp2_with (at_make; refine wpList_make_own _ rfl _ _ 26 rfl w.heap.size 25 i0 (.agg #[.string ⟨#[]⟩, .string ⟨#[]⟩]) 2 Tryz.underlying26 hi0 hz0 hz1 _ _ _ n rfl rfl rfl (by rw [hz2]; omega) (by unfold maxLen; omega) (by simp) ?_)
  intro w2 hown2 hgr2
  have HO2 := Lib.hid hown2
  have HB2 := Lib.hid ((Below.refl w.heap.size w).grown hgr2 (by simp) (by simp))
  clear hown2 hgr2
  go_wp2_with fail
  go_loopg [13, 5] n (fun g x13 x5 wr => ∃ (k : Nat) (A : Option Addr) (m c2 : Nat), k + g = n ∧ x13 = .int .i64 k ∧ x5 = .slice A m c2 ∧ ((l.take k).filter P).length = m ∧ wr.ownsRow w.heap.size 25 2 (.slice A m c2) m (lbls ((l.take k).filter P)) ∧ Below w.heap.size w wr)
  case atStart => exact ⟨0, _, 0, n, by omega, rfl, rfl, rfl, HO2.out, HB2.out⟩
  case round =>
    obtain ⟨k, A, m, c2, hkg, rfl, rfl, hml, hown, hbel⟩ := hrel
    have HO := Lib.hid hown; have HB0 := Lib.hid hbel; have HML := Lib.hid hml
    have hws := hbel.size
    clear hown hbel hml HO2 HB2
    cases gk with
    | zero =>
      obtain rfl : k = n := by omega
      have HE := Lib.hid (show (l.take k).filter P = l.filter P by rw [List.take_of_length_le (by rw [HL.out]; exact Nat.le_refl _)])
      obtain ⟨A', c', h1, h2, h3⟩ := own_slice HO.out
      injection h1 with h1 h4 h5; subst h1; subst h5
      go_wp2_with fail
      go_ret
      exact ownAns (A := A) (c := c2) (by rw [← HE.out, HML.out]; exact HO.out) HB0.out (by rw [← HE.out, HML.out]; rfl) (by rw [← HE.out, HML.out]; exact h2) h3
    | succ g =>
      have hlt : k < n := by omega
      obtain ⟨ad, hkl, rfl, c0, c1⟩ := (H.out.below (HB0.out.mono hB)).lbl hlt
      have hal := World.block_lt_of_cell? wr _ c0
      have HTK := Lib.hid (List.take_succ_eq_append_getElem hkl)
      have HPX := Lib.hid (HP.out l[k])
      generalize l[k] = p at *
      obtain ⟨a, b⟩ := p
      simp only at c0 c1
      have HC := Lib.hid (fun W (hW : Sees W BN 1 AN nn (strs ns)) => contains_str AN nn cn BN ns a W hW hnn)
      obtain ⟨q, hq⟩ : ∃ q, hasS ns a = q := ⟨_, rfl⟩
      have HPX : Hid (P (a, b) = q) := Lib.hid (by rw [← HPX.out, ← hq])
      rw [hq] at HC
      clear hq
      cases q with
      | true =>
        go_wp2_with fail
        refine (HC.out _ (HN.out.below ((HB0.out.alloc hws (.cells #[.string a, .string b] 25)).mono hBN))).mono ?_; rintro e w' ⟨rfl, rfl⟩
        have HNX : Hid ((l.take (k + 1)).filter P = (l.take k).filter P ++ [(a, b)]) := Lib.hid (by rw [HTK.out, List.filter_append, List.filter_cons, if_pos (show P (a, b) = true from HPX.out)]; rfl)
        obtain ⟨W, hW⟩ : ∃ W, wr.alloc (.cells #[.string a, .string b] 25) = W := ⟨_, rfl⟩
        have HKW : Hid (Blk W wr.heap.size 25 [.string a, .string b]) := Lib.hid (by rw [← hW]; exact Blk.mk (heap_alloc_new wr _))
        have HOW : Hid (W.ownsRow w.heap.size 25 2 (.slice A m c2) m (lbls ((l.take k).filter P))) := Lib.hid (by rw [← hW]; exact HO.out.alloc _)
        have HBW : Hid (Below w.heap.size w W) := Lib.hid (by rw [← hW]; exact HB0.out.alloc hws _)
        have hWs := HBW.out.size
        go_upto_region 6 with fail
        try rw [hW]
        clear hW HO HB0
        have c0 := HKW.out.cell 0
        have c1 := HKW.out.cell 1
        simp only [List.getElem?_cons_zero, List.getElem?_cons_succ] at c0 c1
        have HX := Lib.hid (show Sees (W.alloc (.cells #[.string a, .string b] 25)) (W.alloc (.cells #[.string a, .string b] 25)).heap.size 2 (some ⟨W.heap.size, 0, none⟩) 1 (lbls [(a, b)]) from (Blk.mk (heap_alloc_new W _) : Blk _ W.heap.size 25 [.string a, .string b]).sees rfl (List.prefix_refl _))
        have HOA := Lib.hid (HOW.out.alloc (.cells #[.string a, .string b] 25))
        have HBA := Lib.hid (HBW.out.alloc hWs (.cells #[.string a, .string b] 25))
        have hbx : ∀ g, (Value.slice A m c2).ownBlock = some g → w.heap.size ≤ g := fun g hg => (HOW.out.lt g hg).1
        have HBX := Lib.hid hbx
        have hml : m ≤ 1000000 := by have h := HML.out; have h2 := List.length_filter_le P (l.take k); have h3 : (l.take k).length ≤ k := List.length_take_le _ _; omega
        clear HOW HBW HKW hbx
        go_wp2_with (at_builtin; refine wpList_append_at rfl (.tmp 21) (.tmp 23) 26 rfl w.heap.size 25 i0 (.agg #[.string ⟨#[]⟩, .string ⟨#[]⟩]) 2 32 Tryz.underlying26 hi0 hz0 hz1 hz2 rfl (by decide) _ m (lbls ((l.take k).filter P)) rfl HOA.out _ _ 1 1 (lbls [(a, b)]) rfl HX.out (lbls_one _) (by unfold maxLen; omega) (by omega) (by simp; omega) ?_)
        intro v3 w3 hown3 hgr3 hwh3
        obtain ⟨A3, c3, rfl, hc3, hc4⟩ := own_slice hown3
        rw [← lbls_append, ← HNX.out] at hown3
        have HO3 := Lib.hid hown3
        have HB3 := Lib.hid (HBA.out.grown hgr3 (by simp; omega) HBX.out)
        have HML3 : Hid (((l.take (k + 1)).filter P).length = m + 1) := Lib.hid (by rw [HNX.out, List.length_append, HML.out]; rfl)
        clear hown3 hgr3 hwh3 HOA HX HBA HBX HNX
        go_wp2_with fail
        go_roundg g
        case measure => omega
        case rel => exact ⟨k + 1, A3, m + 1, c3, by omega, by go_num, rfl, HML3.out, HO3.out, HB3.out⟩
      | false =>
        go_wp2_with fail
        refine (HC.out _ (HN.out.below ((HB0.out.alloc hws (.cells #[.string a, .string b] 25)).mono hBN))).mono ?_; rintro e w' ⟨rfl, rfl⟩
        have HNX : Hid ((l.take (k + 1)).filter P = (l.take k).filter P) := Lib.hid (by rw [HTK.out, List.filter_append, List.filter_cons, if_neg (by rw [HPX.out]; decide)]; simp)
        have HB3 := Lib.hid (HB0.out.alloc hws (.cells #[.string a, .string b] 25))
        have HO3 := Lib.hid (HO.out.alloc (.cells #[.string a, .string b] 25))
        clear HO HB0
        go_wp2_with fail
        go_roundg g
        case measure => omega
        case rel => exact ⟨k + 1, A, m, c2, by omega, by go_num, rfl, by rw [HNX.out]; exact HML.out, by rw [HNX.out]; exact HO3.out, HB3.out⟩
set_option maxHeartbeats 4000000 in
theorem drop_any (A0 AN : Option Addr) (n c nn cn B BN : Nat) (l : List (ByteArray × ByteArray)) (ns : List ByteArray) (w : World) (h : Sees w B 2 A0 n (lbls l)) (hB : B ≤ w.heap.size) (hn : n ≤ 100000) (hN : Sees w BN 1 AN nn (strs ns)) (hBN : BN ≤ w.heap.size) (hnn : nn ≤ 9223372036854775807) :
    Calls Tryz.prog 102 #[.slice A0 n c, .slice AN nn cn] w (OwnAns 25 2 (l.filter fun x => !hasS ns x.1).length (lbls (l.filter fun x => !hasS ns x.1)) w) := by
  obtain ⟨i0, hi0, hz0, hz1, hz2⟩ := info_parts Tryz.infoLabel
  have H := Lib.hid h
  have HL := Lib.hid h.lbl_len
  have HN := Lib.hid hN
  clear h hN
  obtain ⟨P, hP⟩ : ∃ P : ByteArray × ByteArray → Bool, (fun x => !hasS ns x.1) = P := ⟨_, rfl⟩
  rw [hP]
  have HP := Lib.hid (fun x => congrFun hP x)
  clear hP
  go_enter Tryz.func102, Tryz.ntmps102
  go_wp2_with (at_make; refine wpList_make_own _ rfl _ _ 26 rfl w.heap.size 25 i0 (.agg #[.string ⟨#[]⟩, .string ⟨#[]⟩]) 2 Tryz.underlying26 hi0 hz0 hz1 _ _ _ n rfl rfl rfl (by rw [hz2]; omega) (by unfold maxLen; omega) (by simp) ?_)
  intro w2 hown2 hgr2
  have HO2 := Lib.hid hown2
  have HB2 := Lib.hid ((Below.refl w.heap.size w).grown hgr2 (by simp) (by simp))
  clear hown2 hgr2
  go_wp2_with fail
  go_loopg [13, 5] n (fun g x13 x5 wr => ∃ (k : Nat) (A : Option Addr) (m c2 : Nat), k + g = n ∧ x13 = .int .i64 k ∧ x5 = .slice A m c2 ∧ ((l.take k).filter P).length = m ∧ wr.ownsRow w.heap.size 25 2 (.slice A m c2) m (lbls ((l.take k).filter P)) ∧ Below w.heap.size w wr)
  case atStart => exact ⟨0, _, 0, n, by omega, rfl, rfl, rfl, HO2.out, HB2.out⟩
  case round =>
    obtain ⟨k, A, m, c2, hkg, rfl, rfl, hml, hown, hbel⟩ := hrel
    have HO := Lib.hid hown; have HB0 := Lib.hid hbel; have HML := Lib.hid hml
    have hws := hbel.size
    clear hown hbel hml HO2 HB2
    cases gk with
    | zero =>
      obtain rfl : k = n := by omega
      have HE := Lib.hid (show (l.take k).filter P = l.filter P by rw [List.take_of_length_le (by rw [HL.out]; exact Nat.le_refl _)])
      obtain ⟨A', c', h1, h2, h3⟩ := own_slice HO.out
      injection h1 with h1 h4 h5; subst h1; subst h5
      go_wp2_with fail
      go_ret
      exact ownAns (A := A) (c := c2) (by rw [← HE.out, HML.out]; exact HO.out) HB0.out (by rw [← HE.out, HML.out]; rfl) (by rw [← HE.out, HML.out]; exact h2) h3
    | succ g =>
      have hlt : k < n := by omega
      obtain ⟨ad, hkl, rfl, c0, c1⟩ := (H.out.below (HB0.out.mono hB)).lbl hlt
      have hal := World.block_lt_of_cell? wr _ c0
      have HTK := Lib.hid (List.take_succ_eq_append_getElem hkl)
      have HPX := Lib.hid (HP.out l[k])
      generalize l[k] = p at *
      obtain ⟨a, b⟩ := p
      simp only at c0 c1
      have HC := Lib.hid (fun W (hW : Sees W BN 1 AN nn (strs ns)) => contains_str AN nn cn BN ns a W hW hnn)
      obtain ⟨q, hq⟩ : ∃ q, hasS ns a = q := ⟨_, rfl⟩
      have HPX : Hid (P (a, b) = !q) := Lib.hid (by rw [← HPX.out, ← hq])
      rw [hq] at HC
      clear hq
      cases q with
      | true =>
        go_wp2_with fail
        refine (HC.out _ (HN.out.below ((HB0.out.alloc hws (.cells #[.string a, .string b] 25)).mono hBN))).mono ?_; rintro e w' ⟨rfl, rfl⟩
        have HNX : Hid ((l.take (k + 1)).filter P = (l.take k).filter P) := Lib.hid (by rw [HTK.out, List.filter_append, List.filter_cons, if_neg (by rw [HPX.out]; decide)]; simp)
        have HB3 := Lib.hid (HB0.out.alloc hws (.cells #[.string a, .string b] 25))
        have HO3 := Lib.hid (HO.out.alloc (.cells #[.string a, .string b] 25))
        clear HO HB0
        go_wp2_with fail
        go_roundg g
        case measure => omega
        case rel => exact ⟨k + 1, A, m, c2, by omega, by go_num, rfl, by rw [HNX.out]; exact HML.out, by rw [HNX.out]; exact HO3.out, HB3.out⟩
      | false =>
        go_wp2_with fail
        refine (HC.out _ (HN.out.below ((HB0.out.alloc hws (.cells #[.string a, .string b] 25)).mono hBN))).mono ?_; rintro e w' ⟨rfl, rfl⟩
        have HNX : Hid ((l.take (k + 1)).filter P = (l.take k).filter P ++ [(a, b)]) := Lib.hid (by rw [HTK.out, List.filter_append, List.filter_cons, if_pos (show P (a, b) = true from HPX.out)]; rfl)
        obtain ⟨W, hW⟩ : ∃ W, wr.alloc (.cells #[.string a, .string b] 25) = W := ⟨_, rfl⟩
        have HKW : Hid (Blk W wr.heap.size 25 [.string a, .string b]) := Lib.hid (by rw [← hW]; exact Blk.mk (heap_alloc_new wr _))
        have HOW : Hid (W.ownsRow w.heap.size 25 2 (.slice A m c2) m (lbls ((l.take k).filter P))) := Lib.hid (by rw [← hW]; exact HO.out.alloc _)
        have HBW : Hid (Below w.heap.size w W) := Lib.hid (by rw [← hW]; exact HB0.out.alloc hws _)
        have hWs := HBW.out.size
        go_upto_region 6 with fail
        try rw [hW]
        clear hW HO HB0
        have c0 := HKW.out.cell 0
        have c1 := HKW.out.cell 1
        simp only [List.getElem?_cons_zero, List.getElem?_cons_succ] at c0 c1
        have HX := Lib.hid (show Sees (W.alloc (.cells #[.string a, .string b] 25)) (W.alloc (.cells #[.string a, .string b] 25)).heap.size 2 (some ⟨W.heap.size, 0, none⟩) 1 (lbls [(a, b)]) from (Blk.mk (heap_alloc_new W _) : Blk _ W.heap.size 25 [.string a, .string b]).sees rfl (List.prefix_refl _))
        have HOA := Lib.hid (HOW.out.alloc (.cells #[.string a, .string b] 25))
        have HBA := Lib.hid (HBW.out.alloc hWs (.cells #[.string a, .string b] 25))
        have hbx : ∀ g, (Value.slice A m c2).ownBlock = some g → w.heap.size ≤ g := fun g hg => (HOW.out.lt g hg).1
        have HBX := Lib.hid hbx
        have hml : m ≤ 1000000 := by have h := HML.out; have h2 := List.length_filter_le P (l.take k); have h3 : (l.take k).length ≤ k := List.length_take_le _ _; omega
        clear HOW HBW HKW hbx
        go_wp2_with (at_builtin; refine wpList_append_at rfl (.tmp 22) (.tmp 24) 26 rfl w.heap.size 25 i0 (.agg #[.string ⟨#[]⟩, .string ⟨#[]⟩]) 2 32 Tryz.underlying26 hi0 hz0 hz1 hz2 rfl (by decide) _ m (lbls ((l.take k).filter P)) rfl HOA.out _ _ 1 1 (lbls [(a, b)]) rfl HX.out (lbls_one _) (by unfold maxLen; omega) (by omega) (by simp; omega) ?_)
        intro v3 w3 hown3 hgr3 hwh3
        obtain ⟨A3, c3, rfl, hc3, hc4⟩ := own_slice hown3
        rw [← lbls_append, ← HNX.out] at hown3
        have HO3 := Lib.hid hown3
        have HB3 := Lib.hid (HBA.out.grown hgr3 (by simp; omega) HBX.out)
        have HML3 : Hid (((l.take (k + 1)).filter P).length = m + 1) := Lib.hid (by rw [HNX.out, List.length_append, HML.out]; rfl)
        clear hown3 hgr3 hwh3 HOA HX HBA HBX HNX
        go_wp2_with fail
        go_roundg g
        case measure => omega
        case rel => exact ⟨k + 1, A3, m + 1, c3, by omega, by go_num, rfl, HML3.out, HO3.out, HB3.out⟩
end Go.Proofs.YtlmakdclebbbkaaGreat

namespace Go.Proofs.YtlmakdclebbbkaaGreat
open Go.ChangeShapes Go.WideShapes Go.ChangeAt Go.RowKit
set_option linter.unusedVariables false
set_option maxRecDepth 100000
theorem run_copy_n {P : Program} (w : World) (dT sT ty elem : TypeId) (sz : Nat) (g o dLen dCap : Nat) (a : Addr) (sLen sCap : Nat) (cur : Array Value) (t : TypeId) (cs : List Value)
    (hu : P.underlying dT = some (.slice elem)) (hs : (P.info? elem).map (·.size) = some sz)
    (hg : w.heap[g]? = some (.cells cur t (0, 0))) (hn : cs.length = Nat.min sLen dLen * sz)
    (hsrc : ∀ j v, cs[j]? = some v → w.cell? (a.add j) = some v) (hfit : o + cs.length ≤ cur.size) (h1 : ∀ v ∈ cs, v.oneCell' = true) :
    (Builtin.copy_ #[dT, sT] ty #[.slice (some ⟨g, o, none⟩) dLen dCap, .slice (some a) sLen sCap]).run P w =
      .ok (goInt (Nat.min sLen dLen)) (w.setRow g (cur.toList.take o ++ cs ++ cur.toList.drop (o + cs.length)).toArray) := by
  have hl := run_loadCells_list (P := P) w a cs hsrc
  have hst := run_storeCells_at P g o t cs 0 cur w hg (by simpa using hfit) h1
  cases hq : P.info? elem with
  | none => simp [hq] at hs
  | some i =>
    have hi : i.size = sz := by simpa [hq] using hs
    simp [Builtin.copy_, run_underlying hu, Builtin.lenOf, Builtin.firstCells, sizeOf, typeInfo, hq, hi, ← hn, hl, hst]
end Go.Proofs.YtlmakdclebbbkaaGreat

namespace Go.Proofs.YtlmakdclebbbkaaGreat
open Go.ChangeShapes Go.WideShapes Go.ChangeAt Go.RowKit Go.Deep
set_option linter.unusedVariables false
/-- Numbers of which a set is made. -/
structure KSet where
  A : Option Addr
  n : Nat
  c : Nat
  has : List Int
  A2 : Option Addr
  n2 : Nat
  c2 : Nat
  vals : List Int
def KSet.val (k : KSet) : Value := .agg #[.slice k.A k.n k.c, .slice k.A2 k.n2 k.c2]
structure KSet.ok (k : KSet) (B : Nat) (w : World) : Prop where
  has_ : Sees w B 1 k.A k.n (ints k.has)
  hasI : ∀ z ∈ k.has, I64 z
  n_ : k.n ≤ k.c ∧ k.c ≤ 9223372036854775807
  vals_ : Sees w B 1 k.A2 k.n2 (ints k.vals)
  valsI : ∀ z ∈ k.vals, I64 z
  n2_ : k.n2 ≤ k.c2 ∧ k.c2 ≤ 9223372036854775807
theorem KSet.ok.below {k : KSet} {B : Nat} {w w' : World} (h : k.ok B w) (hb : Below B w w') : k.ok B w' := ⟨h.has_.below hb, h.hasI, h.n_, h.vals_.below hb, h.valsI, h.n2_⟩
section
variable {P : Program} {w : World} {base b0 : Nat} {spare : Nat → Bool} {held : Bool} {H : Type} {enc : TypeId × Value → H}
end
end Go.Proofs.YtlmakdclebbbkaaGreat

namespace Go.Proofs.YtlmakdclebbbkaaGreat
open Go.ChangeShapes Go.WideShapes Go.ChangeAt Go.RowKit
set_option linter.unusedVariables false
set_option maxRecDepth 100000
theorem less_irrefl : ∀ a : List UInt8, Op.bytesLess a a = false
  | [] => rfl
  | a :: x => by
    have hn : ¬ a < a := fun h => u8_not h h
    unfold Op.bytesLess
    simp [hn, less_irrefl x]
theorem cmp_ne : ∀ {a b : List UInt8}, a ≠ b → Op.bytesLess a b = true ∨ Op.bytesLess b a = true
  | [], [], h => absurd rfl h
  | [], _ :: _, _ => .inl rfl
  | _ :: _, [], _ => .inr rfl
  | a :: x, b :: y, h => by
    unfold Op.bytesLess
    rcases u8_tri a b with h1 | h1 | h1
    · exact .inl (by simp [h1])
    · subst h1
      rcases cmp_ne (a := x) (b := y) (fun e => h (by rw [e])) with h2 | h2
      · exact .inl (by simp [h2])
      · exact .inr (by simp [h2])
    · exact .inr (by simp [h1])
end Go.Proofs.YtlmakdclebbbkaaGreat

namespace Go.Proofs.YtlmakdclebbbkaaGreat
open Go.ChangeShapes Go.WideShapes Go.ChangeAt Go.RowKit
set_option linter.unusedVariables false
set_option maxRecDepth 100000
/-- A list that a call made, or one like it. -/
def HasL (w : World) (v : Value) (l : List (ByteArray × ByteArray)) : Prop := ∃ A c, v = .slice A l.length c ∧ Sees w w.heap.size 2 A l.length (lbls l) ∧ l.length ≤ c ∧ c ≤ 9223372036854775807
theorem HasL.below {w w' : World} {v : Value} {l : List (ByteArray × ByteArray)} (h : HasL w v l) (hb : Below w.heap.size w w') : HasL w' v l := by
  obtain ⟨A, c, h1, h2, h3⟩ := h
  exact ⟨A, c, h1, (h2.below hb).more hb.size, h3⟩
theorem HasL.drewN {w : World} {v : Value} {l : List (ByteArray × ByteArray)} (h : HasL w v l) (n : Nat) : HasL (w.drewN n) v l := by
  obtain ⟨A, c, h1, h2, h3⟩ := h
  exact ⟨A, c, h1, h2.drewN n, h3⟩
theorem OwnAns.hasL {w w' : World} {e : Ending} {l : List (ByteArray × ByteArray)} (h : OwnAns 25 2 l.length (lbls l) w e w') : ∃ v, e = .returned v ∧ HasL w' v l ∧ Below w.heap.size w w' := by
  obtain ⟨A, c, h1, h2, h3, h4, h5⟩ := h
  exact ⟨_, h1, ⟨A, c, rfl, Sees.of_own h2, h4, h5⟩, h3⟩
theorem HasL.slice {w : World} {A : Option Addr} {n c : Nat} {l : List (ByteArray × ByteArray)} (h : HasL w (.slice A n c) l) : Sees w w.heap.size 2 A n (lbls l) ∧ l.length = n ∧ n ≤ c ∧ c ≤ 9223372036854775807 := by
  obtain ⟨A', c', h1, h2, h3, h4⟩ := h
  injection h1 with h1 h5 h6
  subst h1; subst h5; subst h6
  exact ⟨h2, rfl, h3, h4⟩
theorem HasL.form {w : World} {v : Value} {l : List (ByteArray × ByteArray)} (h : HasL w v l) : ∃ A c, v = .slice A l.length c := by
  obtain ⟨A, c, h1, _⟩ := h; exact ⟨A, c, h1⟩
theorem printL_length_le {l : List (ByteArray × ByteArray)} (h : rightS l = true) : (printL l).length ≤ 500 := by
  rw [printL, if_pos h]
  have h1 := joinL_length_le l (rightS_sizes h)
  have h2 := rightS_len h
  have h3 : 76 * l.length ≤ 456 := Nat.mul_le_mul_left 76 h2
  simp only [List.length_cons, List.length_append, List.length_nil]
  omega
end Go.Proofs.YtlmakdclebbbkaaGreat

namespace Go.Proofs.YtlmakdclebbbkaaGreat
open Go.ChangeShapes Go.WideShapes Go.ChangeAt Go.RowKit
set_option linter.unusedVariables false
abbrev Lbl := ByteArray × ByteArray
theorem less_trans : ∀ {a b c : List UInt8}, Op.bytesLess a b = true → Op.bytesLess b c = true → Op.bytesLess a c = true
  | _, [], _, h, _ => by unfold Op.bytesLess at h; cases h
  | _, _ :: _, [], _, h => by unfold Op.bytesLess at h; cases h
  | [], _ :: _, _ :: _, _, _ => rfl
  | a :: x, b :: y, c :: z, h1, h2 => by
    unfold Op.bytesLess at h1 h2 ⊢
    simp only [Bool.or_eq_true, decide_eq_true_eq, Bool.and_eq_true, beq_iff_eq] at h1 h2 ⊢
    rcases h1 with h1 | ⟨rfl, h1⟩ <;> rcases h2 with h2 | ⟨rfl, h2⟩
    · exact .inl (by rw [UInt8.lt_iff_toNat_lt] at *; omega)
    · exact .inl h1
    · exact .inl h2
    · exact .inr ⟨rfl, less_trans h1 h2⟩
theorem less_asymm {a b : List UInt8} (h : Op.bytesLess a b = true) : Op.bytesLess b a = false := by
  cases hq : Op.bytesLess b a with
  | false => rfl
  | true => have := less_trans h hq; rw [less_irrefl] at this; cases this
theorem rightS_ok {l : List Lbl} (h : rightS l = true) : ∀ x ∈ l, lblOk x = true := by
  intro x hx
  obtain ⟨k, hk, rfl⟩ := List.getElem_of_mem hx
  exact (rightS_at h hk).1
/-- The first value of a name. -/
def getF (l : List Lbl) (name : ByteArray) : ByteArray := match l.find? (fun x => decide (x.1 = name)) with | some x => x.2 | none => ⟨#[]⟩
theorem getF_none {l : List Lbl} {name : ByteArray} (h : ∀ x ∈ l, x.1 ≠ name) : getF l name = ⟨#[]⟩ := by
  unfold getF
  rw [List.find?_eq_none.2 fun x hx => by simpa using h x hx]
end Go.Proofs.YtlmakdclebbbkaaGreat
