/- Texts, merged in one. -/
import Derived.Test.YtlmakdclebbbkaaGreatBase34
import Derived.Test.YtlmakdclebbbkaaGreatBase35
import Derived.Test.YtlmakdclebbbkaaGreatBase5
import Derived.Test.YtlmakdclebbbkaaGreatBase2
import Derived.Test.YtlmakdclebbbkaaGreatBase
import Derived.Test.YtlmakdclebbbkaaGreatBase33
import Derived.Test.YtlmakdclebbbkaaGreatBase7
import Derived.Deep.RegionHeld3
import Derived.Test.YtlmakdclebbbkaaGreatBase3
import Derived.Test.YtlmakdclebbbkaaGreatShelf
import Derived.Test.YtlmakdclebbbkaaGreatBase4
import Derived.Laws.IdiomStrings
import Derived.Laws.BytesArg
import Derived.Deep.CutBlock
import Derived.Deep.DeepCutAuto
import Derived.Lib.ItoaLen
import Derived.Test.YtlmakdclebbbkaaGreatBase32
import Derived.Test.YtlmakdclebbbkaaGreatBase13
import Derived.Deep.RegionLaw
namespace Go.Proofs.YtlmakdclebbbkaaGreat
open Go.ChangeShapes Go.WideShapes Go.ChangeAt Go.RowKit
set_option linter.unusedVariables false
set_option linter.unusedSimpArgs false
set_option maxRecDepth 100000
inductive PE where
  | mk (kd n : Int) (ms : List Mtc) (ns : List ByteArray) (kids : List PE)
mutual
def XE.pe : XE → PE
  | .mk k n _ ms _ ns _ ks => .mk k n ms ns (pesX ks)
def pesX : List XE → List PE
  | [] => []
  | x :: l => x.pe :: pesX l
end
end Go.Proofs.YtlmakdclebbbkaaGreat

namespace Go.Proofs.YtlmakdclebbbkaaGreat
open Go.ChangeShapes Go.WideShapes Go.ChangeAt Go.RowKit
set_option linter.unusedVariables false
set_option maxRecDepth 100000
def nameAt (ns : List ByteArray) (k : Nat) : Bool := wordF (ns.getD k ⟨#[]⟩) && !hasS (ns.take k) (ns.getD k ⟨#[]⟩)
def namesOk (ns : List ByteArray) : Nat → Bool
  | 0 => true
  | k + 1 => namesOk ns k && nameAt ns k
def namesF (ns : List ByteArray) : Bool := decide (ns.length ≤ 6) && namesOk ns ns.length
theorem namesOk_false {ns : List ByteArray} {k : Nat} (h : nameAt ns k = false) : ∀ n, k < n → namesOk ns n = false
  | 0, hk => by omega
  | n + 1, hk => by
    unfold namesOk
    by_cases e : k = n
    · rw [← e, h, Bool.and_false]
    · rw [namesOk_false h n (by omega), Bool.false_and]
theorem sees_take1 {w : World} {B : Nat} {A : Option Addr} {n k : Nat} {ns : List ByteArray} (h : Sees w B 1 A n (strs ns)) (hk : k ≤ n) : Sees w B 1 A k (strs (ns.take k)) := by
  have hl : ns.length = n := h.str_len
  refine ⟨by rw [strs_length, List.length_take]; omega, fun hp => ?_⟩
  obtain ⟨ad, e, hb, hc⟩ := h.at_ (by omega)
  refine ⟨ad, e, hb, fun j u hj => hc j u ?_⟩
  have hj2 : (strs (ns.take k))[j]? = some u := hj
  have e2 : strs (ns.take k) = (strs ns).take k := by simp [strs, List.map_take]
  rw [e2, List.getElem?_take] at hj2
  split at hj2
  · exact hj2
  · exact absurd hj2 (by simp)
set_option maxHeartbeats 2000000 in
theorem names_x (A : Option Addr) (n c B : Nat) (ns : List ByteArray) (w : World) (h : Sees w B 1 A n (strs ns)) (hc : n ≤ c) (hm : c ≤ 9223372036854775807) :
    Calls Tryz.prog 136 #[.slice A n c] w fun e w' => e = .returned (.bool (namesF ns)) ∧ w = w' := by
  have H := Lib.hid h
  have HL := Lib.hid h.str_len
  have HW := Lib.hid (fun s => word_any s w)
  have HC := Lib.hid (fun k (hk : k ≤ n) x => contains_str A k c B (ns.take k) x w (sees_take1 h hk) (by omega))
  have HF : Hid (namesF ns = (decide (ns.length ≤ 6) && namesOk ns ns.length)) := Lib.hid rfl
  clear h
  generalize namesF ns = q at *
  go_enter Tryz.func136, Tryz.ntmps136
  by_cases h6 : n ≤ 6
  · have t0 : (n : Int) ≤ 6 := by omega
    go_wp2_with fail
    go_loop [10] (fun i => ∃ k : Nat, k ≤ n ∧ i = .int .i64 k ∧ namesOk ns k = true) (fun i => n - (intOf i).toNat)
    case atStart => exact ⟨0, Nat.zero_le _, rfl, rfl⟩
    case round =>
      obtain ⟨k, hk, rfl, ht⟩ := hrel
      have HT := Lib.hid ht; clear ht
      by_cases hlt : k < n
      · obtain ⟨ad, hkl, rfl, hcell⟩ := H.out.str hlt
        have HG := Lib.hid (show ns.getD k ⟨#[]⟩ = ns[k] by simp [hkl])
        have HWD := Lib.hid (HW.out ns[k])
        have HCD := Lib.hid (HC.out k hk ns[k])
        cases hw : wordF ns[k] with
        | false =>
          have HE := Lib.hid (show q = false by rw [HF.out, namesOk_false (k := k) (by unfold nameAt; rw [HG.out, hw]; rfl) _ (by rw [HL.out]; exact hlt), Bool.and_false])
          rw [hw] at HWD
          clear hw
          go_wp2_with fail
          (with_reducible refine HWD.out.mono ?_); rintro e w' ⟨rfl, rfl⟩
          go_wp2_with fail
          go_ret
          exact ⟨by rw [HE.out]; rfl, rfl⟩
        | true =>
          rw [hw] at HWD
          go_wp2_with fail
          (with_reducible refine HWD.out.mono ?_); rintro e w' ⟨rfl, rfl⟩
          cases hh : hasS (ns.take k) ns[k] with
          | true =>
            have HE := Lib.hid (show q = false by rw [HF.out, namesOk_false (k := k) (by unfold nameAt; rw [HG.out, hw, hh]; rfl) _ (by rw [HL.out]; exact hlt), Bool.and_false])
            rw [hh] at HCD
            clear hw hh
            go_wp2_with fail
            (with_reducible refine HCD.out.mono ?_); rintro e w' ⟨rfl, rfl⟩
            go_wp2_with fail
            go_ret
            exact ⟨by rw [HE.out]; rfl, rfl⟩
          | false =>
            have HN := Lib.hid (show namesOk ns (k + 1) = true by unfold namesOk nameAt; rw [HT.out, HG.out, hw, hh]; rfl)
            rw [hh] at HCD
            clear hw hh
            go_wp2_with fail
            (with_reducible refine HCD.out.mono ?_); rintro e w' ⟨rfl, rfl⟩
            go_wp2_with fail
            go_round
            case rel => exact ⟨k + 1, by omega, by go_num, HN.out⟩
            case measure => simp [intOf]; omega
      · obtain rfl : k = n := by omega
        have HE := Lib.hid (show q = true by rw [HF.out, HL.out, HT.out, decide_eq_true h6]; rfl)
        go_wp2_with fail
        go_ret
        exact ⟨by rw [HE.out]; rfl, rfl⟩
  · have t0 : ¬ (n : Int) ≤ 6 := by omega
    have HE := Lib.hid (show q = false by rw [HF.out, HL.out, decide_eq_false h6]; rfl)
    go_wp2_with fail
    go_ret
    exact ⟨by rw [HE.out]; rfl, rfl⟩
end Go.Proofs.YtlmakdclebbbkaaGreat

namespace Go.Proofs.YtlmakdclebbbkaaGreat
open Go.ChangeShapes Go.WideShapes Go.ChangeAt Go.RowKit
set_option linter.unusedVariables false
set_option linter.unusedSimpArgs false
set_option maxRecDepth 100000
def oneT (ns : List ByteArray) (tys : List Int) : Int := if namesF ns = true ∧ tys = [2] then 2 else 0
def twoT (k : Int) (ns : List ByteArray) (tys : List Int) : Int := match ns, tys with
  | [], [a, b] => if a = 0 ∨ b = 0 then 0 else if k ≤ 7 ∧ a = 1 ∧ b = 1 then 1 else if k ≤ 7 then 2 else if k ≤ 13 ∧ a ≠ 2 then 0 else if 13 < k ∧ (a ≠ 2 ∨ b ≠ 2) then 0 else 2
  | _, _ => 0
mutual
def PE.ty : PE → Int
  | .mk k n ms ns ks => if k = 1 then (if ms.length + ns.length + ks.length = 0 then 1 else 0)
    else if k = 2 then (if ns.length + ks.length = 0 ∧ rightM ms = true ∧ 1 ≤ n ∧ n ≤ 1048576 then 2 else 0)
    else if ¬ (ms.length = 0 ∧ n = 0) then 0
    else if wordX k ≠ ⟨#[]⟩ then oneT ns (tysP ks)
    else if signX k ≠ ⟨#[]⟩ then twoT k ns (tysP ks) else 0
def tysP : List PE → List Int
  | [] => []
  | x :: l => x.ty :: tysP l
end
theorem tysP_length (l : List XE) : (tysP (pesX l)).length = l.length := by
  induction l with
  | nil => rfl
  | cons x l ih => simp [pesX, tysP, ih]
mutual
def PE.small : PE → Prop
  | .mk _ _ ms ns ks => ms.length ≤ 1000002 ∧ ns.length ≤ 1000002 ∧ ks.length ≤ 1000002 ∧ smallP ks
def smallP : List PE → Prop
  | [] => True
  | x :: l => x.small ∧ smallP l
end
theorem smallP_mem : ∀ (l : List XE), smallP (pesX l) → ∀ x ∈ l, x.pe.small
  | [], _ => fun x hx => absurd hx List.not_mem_nil
  | y :: l, h => fun x hx => by
    have h' : y.pe.small ∧ smallP (pesX l) := h
    rcases List.mem_cons.1 hx with rfl | hx
    · exact h'.1
    · exact smallP_mem l h'.2 x hx
def TypeSaid (d : Nat) : Prop := ∀ (x : XE) (w : World), x.pe.small → okX d x w → Calls Tryz.prog 50 #[x.val] w fun e w' => e = .returned (.int .i64 x.pe.ty) ∧ Below w.heap.size w w'
theorem Slc.slice {w : World} {size n c : Nat} {A : Option Addr} {xs : List Value} {m : Nat} (h : Slc w size (.slice A m c) n xs) : Sees w w.heap.size size A n xs ∧ n ≤ c ∧ c ≤ 9223372036854775807 := by
  obtain ⟨A', c', e, h1, h2⟩ := h
  injection e with e1 e2 e3
  subst e1; subst e3
  exact ⟨h1, h2⟩
set_option maxHeartbeats 2000000 in
theorem typeOne_x (d : Nat) (IH : TypeSaid d) (kk nn : Int) (A1 : Option Addr) (c1 : Nat) (ms : List Mtc) (A2 : Option Addr) (c2 : Nat) (ns : List ByteArray) (A3 : Option Addr) (c3 : Nat) (ks : List XE) (w : World) (hs : smallP (pesX ks))
    (h : okX (d + 1) (.mk kk nn (.slice A1 ms.length c1) ms (.slice A2 ns.length c2) ns (.slice A3 ks.length c3) ks) w) :
    Calls Tryz.prog 94 #[.agg #[.int .i64 kk, .int .i64 nn, .slice A1 ms.length c1, .slice A2 ns.length c2, .slice A3 ks.length c3]] w fun e w' => e = .returned (.int .i64 (oneT ns (tysP (pesX ks)))) ∧ Below w.heap.size w w' := by
  obtain ⟨_, h2, h3, h4⟩ := h
  obtain ⟨s2, m2, m2'⟩ := Slc.slice h2
  obtain ⟨s3, m3, m3'⟩ := Slc.slice h3
  replace s3 : Sees w w.heap.size 5 A3 ks.length (kcells ks) := s3
  have hb : Below w.heap.size w (w.alloc (.cells #[.int .i64 kk, .int .i64 nn, .slice A1 ms.length c1, .slice A2 ns.length c2, .slice A3 ks.length c3] 37)) := (Below.refl _ _).alloc (Nat.le_refl _) _
  have HB := Lib.hid hb
  have HX := Lib.hid (Blk.mk (heap_alloc_new w (.cells #[.int .i64 kk, .int .i64 nn, .slice A1 ms.length c1, .slice A2 ns.length c2, .slice A3 ks.length c3] 37)) : Blk _ w.heap.size 37 [.int .i64 kk, .int .i64 nn, .slice A1 ms.length c1, .slice A2 ns.length c2, .slice A3 ks.length c3])
  have HN := Lib.hid (names_x A2 ns.length c2 _ ns (w.alloc (.cells #[.int .i64 kk, .int .i64 nn, .slice A1 ms.length c1, .slice A2 ns.length c2, .slice A3 ks.length c3] 37)) (s2.below hb) m2 m2')
  have H3 := Lib.hid (s3.below hb)
  have HI := Lib.hid (fun x (hx : x ∈ ks) => IH x (w.alloc (.cells #[.int .i64 kk, .int .i64 nn, .slice A1 ms.length c1, .slice A2 ns.length c2, .slice A3 ks.length c3] 37)) (smallP_mem ks hs x hx) (okX_below hb d x (h4 x hx)))
  have HOK := Lib.hid (fun x (hx : x ∈ ks) => okX_below hb d x (h4 x hx))
  have HT : Hid (oneT ns (tysP (pesX ks)) = if namesF ns = true ∧ tysP (pesX ks) = [2] then 2 else 0) := Lib.hid rfl
  obtain ⟨q, hq⟩ : ∃ q, oneT ns (tysP (pesX ks)) = q := ⟨_, rfl⟩
  rw [hq] at HT ⊢
  clear h2 h3 h4 s2 s3 hb IH hq m3 m3' hs
  go_enter Tryz.func94, Tryz.ntmps94
  go_upto_region 1 with fail
  generalize w.alloc (.cells #[.int .i64 kk, .int .i64 nn, .slice A1 ms.length c1, .slice A2 ns.length c2, .slice A3 ks.length c3] 37) = W1 at *
  obtain ⟨x0, x1, x2, x3, x4⟩ := blk_cells5 HX.out
  cases hn : namesF ns with
  | false =>
    rw [hn] at HN
    have HE := Lib.hid (show q = 0 by rw [HT.out, if_neg (by rw [hn]; simp)])
    clear hn
    go_wp2_with fail
    (with_reducible refine HN.out.mono ?_); rintro e w' ⟨rfl, rfl⟩
    go_wp2_with fail
    go_ret
    exact ⟨by rw [HE.out]; rfl, HB.out⟩
  | true =>
    rw [hn] at HN
    match ks with
    | [] =>
      have HE := Lib.hid (show q = 0 by rw [HT.out, if_neg (fun h => absurd h.2 (by simp [pesX, tysP]))])
      clear hn
      go_wp2_with fail
      (with_reducible refine HN.out.mono ?_); rintro e w' ⟨rfl, rfl⟩
      go_wp2_with fail
      go_ret
      exact ⟨by rw [HE.out]; rfl, HB.out⟩
    | a :: b :: l =>
      have t1 : (((l.length + 1 + 1 : Nat) : Int) != 1) = true := by rw [bne_iff_ne]; omega
      have t2 : ((l.length : Int) + 1 + 1 != 1) = true := by rw [bne_iff_ne]; omega
      have HE := Lib.hid (show q = 0 by rw [HT.out, if_neg (fun h => absurd h.2 (by simp [pesX, tysP]))])
      clear hn
      go_wp2_with fail
      (with_reducible refine HN.out.mono ?_); rintro e w' ⟨rfl, rfl⟩
      go_wp2_with fail
      go_ret
      exact ⟨by rw [HE.out]; rfl, HB.out⟩
    | [a] =>
      obtain ⟨ad, hl, rfl, c0, c1', c2', c3', c4⟩ := H3.out.kid (k := 0) (by simp)
      have e0 : ad.add (0 * 5) = ad := by first | (simp [go_sem]; done) | (unfold Addr.add; split <;> simp_all)
      rw [e0] at c0 c1' c2' c3' c4
      obtain ⟨B1, e1, B2, e2, B3, e3, v1, v2, v3⟩ := okX_forms (HOK.out a (by simp))
      have HIA := Lib.hid (HI.out a (by simp))
      have HE := Lib.hid (show q = if a.pe.ty = 2 then 2 else 0 by rw [HT.out]; simp [hn, pesX, tysP])
      obtain ⟨ak, an, amv, ams, anv, ans, akv, aks⟩ := a
      simp only [XE.mv, XE.nv, XE.kv, XE.ms, XE.ns, XE.kids] at v1 v2 v3
      subst v1; subst v2; subst v3
      simp only [List.getElem_cons_zero, XE.kd, XE.n, XE.mv, XE.nv, XE.kv, XE.val] at c0 c1' c2' c3' c4 HIA
      clear hn
      generalize (XE.pe _).ty = ta at *
      go_wp2_with fail
      (with_reducible refine HN.out.mono ?_); rintro e w' ⟨rfl, rfl⟩
      go_wp2_with fail
      (with_reducible refine HIA.out.mono ?_); rintro e w2 ⟨rfl, hb2⟩
      have HB2 := Lib.hid (HB.out.trans (hb2.mono HB.out.size))
      clear hb2
      by_cases ht : ta = 2
      · have t1 : (ta != 2) = false := by rw [ht]; rfl
        have HE2 := Lib.hid (show q = 2 by rw [HE.out, if_pos ht])
        clear ht
        go_wp2_with fail
        go_ret
        exact ⟨by rw [HE2.out]; rfl, HB2.out⟩
      · have t1 : (ta != 2) = true := by rw [bne_iff_ne]; exact ht
        have HE2 := Lib.hid (show q = 0 by rw [HE.out, if_neg ht])
        clear ht
        go_wp2_with fail
        go_ret
        exact ⟨by rw [HE2.out]; rfl, HB2.out⟩
end Go.Proofs.YtlmakdclebbbkaaGreat

namespace Go.Proofs.YtlmakdclebbbkaaGreat
open Go.ChangeShapes Go.WideShapes Go.ChangeAt Go.RowKit
set_option linter.unusedVariables false
set_option linter.unusedSimpArgs false
set_option maxRecDepth 100000
def alike (x y : Tok) : Prop := x.kd = y.kd ∧ x.n = y.n ∧ x.tx = y.tx
end Go.Proofs.YtlmakdclebbbkaaGreat

namespace Go.Proofs.YtlmakdclebbbkaaGreat
open Go.ChangeShapes Go.WideShapes Go.ChangeAt Go.RowKit
set_option linter.unusedVariables false
set_option maxRecDepth 100000
def joinN : List ByteArray → List UInt8
  | [] => []
  | x :: l => x.data.toList ++ (if l.isEmpty then [] else 44 :: joinN l)
theorem keepN_pos {d : Nat} {x : XE} (h : keepN d x) : 0 < d := by
  cases d with
  | zero => exact h.elim
  | succ d => omega
theorem keepV_pos {d : Nat} {x : XE} (h : keepV d x) : 0 < d := by
  cases d with
  | zero => exact h.elim
  | succ d => omega
theorem keepValue_size : ∀ a, a < 8 → (keepValues.getD a ⟨#[]⟩).size ≤ 3 := by
  intro a ha
  match a, ha with
  | 0, _ => decide
  | 1, _ => decide
  | 2, _ => decide
  | 3, _ => decide
  | 4, _ => decide
  | 5, _ => decide
  | 6, _ => decide
  | 7, _ => decide
theorem keepNs_good {ns : List ByteArray} (h : keepNs ns) : ns.length ≤ 4 ∧ ∀ s ∈ ns, s.size ≤ 4 := by
  refine ⟨h.length_le, fun s hs => ?_⟩
  have hm : s ∈ keepNames := h.subset hs
  have : ∀ s ∈ keepNames, s.size ≤ 4 := by decide
  exact this s hm
end Go.Proofs.YtlmakdclebbbkaaGreat

namespace Go.Proofs.YtlmakdclebbbkaaGreat
open Go.ChangeShapes Go.WideShapes Go.ChangeAt Go.RowKit
set_option linter.unusedVariables false
set_option linter.unusedSimpArgs false
set_option maxRecDepth 100000
theorem keepNames_mem {a : Nat} (h : a < 3) : keepNames.getD a ⟨#[]⟩ ∈ keepNames := by
  match a, h with
  | 0, _ => exact (show (⟨#[97]⟩ : ByteArray) ∈ keepNames by simp [keepNames])
  | 1, _ => exact (show (⟨#[98]⟩ : ByteArray) ∈ keepNames by simp [keepNames])
  | 2, _ => exact (show (⟨#[99]⟩ : ByteArray) ∈ keepNames by simp [keepNames])
end Go.Proofs.YtlmakdclebbbkaaGreat

namespace Go.Proofs.YtlmakdclebbbkaaGreat
open Go.ChangeShapes Go.WideShapes Go.ChangeAt Go.RowKit
set_option linter.unusedVariables false
set_option linter.unusedSimpArgs false
set_option maxRecDepth 100000
mutual
def PE.deep : PE → Nat
  | .mk _ _ _ _ ks => 1 + deepsP ks
def deepsP : List PE → Nat
  | [] => 0
  | x :: l => max x.deep (deepsP l)
end
def sgT (x : ByteArray) : Tok := ⟨4, 0, 0, x⟩
def wdT (x : ByteArray) : Tok := ⟨2, 0, 0, x⟩
def txT (x : ByteArray) : Tok := ⟨3, 0, 0, x⟩
def nmT (n : Int) : Tok := ⟨1, n, 0, ⟨#[]⟩⟩
def mtoks (m : Mtc) : List Tok := [wdT m.1, sgT (signF m.2.2), txT m.2.1]
def msMore (l : List Mtc) : List Tok := l.flatMap fun m => sgT ⟨#[44]⟩ :: mtoks m
def msToks : List Mtc → List Tok
  | [] => []
  | m :: l => mtoks m ++ msMore l
def nsMore (l : List ByteArray) : List Tok := l.flatMap fun m => [sgT ⟨#[44]⟩, wdT m]
def nsToks : List ByteArray → List Tok
  | [] => []
  | m :: l => wdT m :: nsMore l
def opT (k : Int) : Tok := if 14 ≤ k then wdT (signX k) else sgT (signX k)
mutual
def PE.toks : PE → List Tok
  | .mk k n ms ns ks => if k = 1 then [nmT n]
    else if k = 2 then sgT ⟨#[123]⟩ :: (msToks ms ++ [sgT ⟨#[125]⟩, sgT ⟨#[91]⟩, nmT n, sgT ⟨#[93]⟩])
    else if 17 ≤ k then wdT (wordX k) :: wdT ⟨#[98, 121]⟩ :: sgT ⟨#[40]⟩ :: (nsToks ns ++ (sgT ⟨#[41]⟩ :: sgT ⟨#[40]⟩ :: ((toksP ks).headD [] ++ [sgT ⟨#[41]⟩])))
    else sgT ⟨#[40]⟩ :: ((toksP ks).headD [] ++ (opT k :: (((toksP ks).drop 1).headD [] ++ [sgT ⟨#[41]⟩])))
def toksP : List PE → List (List Tok)
  | [] => []
  | x :: l => x.toks :: toksP l
end
mutual
def PE.text : PE → List UInt8
  | .mk k n ms ns ks => if k = 1 then Lib.itoa n
    else if k = 2 then 123 :: (joinM ms ++ (125 :: 91 :: (Lib.itoa n ++ [93])))
    else if 17 ≤ k then (wordX k).data.toList ++ ([32, 98, 121, 32, 40] ++ (joinN ns ++ ([41, 32, 40] ++ ((textsP ks).headD [] ++ [41]))))
    else 40 :: ((textsP ks).headD [] ++ (32 :: ((signX k).data.toList ++ (32 :: (((textsP ks).drop 1).headD [] ++ [41])))))
def textsP : List PE → List (List UInt8)
  | [] => []
  | x :: l => x.text :: textsP l
end
mutual
def PE.fits : PE → Prop
  | .mk _ n _ _ ks => I64 n ∧ fitsP ks
def fitsP : List PE → Prop
  | [] => True
  | x :: l => x.fits ∧ fitsP l
end
theorem word_kinds {k : Int} (h : wordX k ≠ ⟨#[]⟩) : 17 ≤ k ∧ k ≤ 20 := by
  unfold wordX at h
  by_cases h1 : k = 17 <;> by_cases h2 : k = 18 <;> by_cases h3 : k = 19 <;> by_cases h4 : k = 20 <;> first | omega | (exfalso; apply h; simp only [h1, h2, h3, h4, if_false])
theorem word_none {k : Int} (h : ¬ (17 ≤ k ∧ k ≤ 20)) : wordX k = ⟨#[]⟩ := by
  by_cases e : wordX k = ⟨#[]⟩
  · exact e
  · exact absurd (word_kinds e) h
theorem sign_kinds {k : Int} (h : signX k ≠ ⟨#[]⟩) : 3 ≤ k ∧ k ≤ 16 := by
  by_cases hk : 3 ≤ k ∧ k ≤ 16
  · exact hk
  · exfalso; apply h
    unfold signX
    simp only [show ¬ k = 3 by omega, show ¬ k = 4 by omega, show ¬ k = 5 by omega, show ¬ k = 6 by omega, show ¬ k = 7 by omega, show ¬ k = 8 by omega, show ¬ k = 9 by omega, show ¬ k = 10 by omega, show ¬ k = 11 by omega, show ¬ k = 12 by omega, show ¬ k = 13 by omega, show ¬ k = 14 by omega, show ¬ k = 15 by omega, show ¬ k = 16 by omega, if_false]
theorem word_is {k : Int} (h1 : 17 ≤ k) (h2 : k ≤ 20) : wordX k ≠ ⟨#[]⟩ := by
  have : k = 17 ∨ k = 18 ∨ k = 19 ∨ k = 20 := by omega
  rcases this with rfl | rfl | rfl | rfl <;> decide
theorem sign_is {k : Int} (h1 : 3 ≤ k) (h2 : k ≤ 16) : signX k ≠ ⟨#[]⟩ := by
  have : k = 3 ∨ k = 4 ∨ k = 5 ∨ k = 6 ∨ k = 7 ∨ k = 8 ∨ k = 9 ∨ k = 10 ∨ k = 11 ∨ k = 12 ∨ k = 13 ∨ k = 14 ∨ k = 15 ∨ k = 16 := by omega
  rcases this with rfl | rfl | rfl | rfl | rfl | rfl | rfl | rfl | rfl | rfl | rfl | rfl | rfl | rfl <;> decide
inductive Typed : PE → Prop where
  | num (n : Int) : Typed (.mk 1 n [] [] [])
  | pick (n : Int) (ms : List Mtc) (h : rightM ms = true) (h1 : 1 ≤ n) (h2 : n ≤ 1048576) : Typed (.mk 2 n ms [] [])
  | one (k : Int) (ns : List ByteArray) (a : PE) (h1 : 17 ≤ k) (h2 : k ≤ 20) (hn : namesF ns = true) (ha : a.ty = 2) : Typed (.mk k 0 [] ns [a])
  | two (k : Int) (a b : PE) (h1 : 3 ≤ k) (h2 : k ≤ 16) (ha : a.ty ≠ 0) (hb : b.ty ≠ 0) : Typed (.mk k 0 [] [] [a, b])
theorem ty_typed {x : PE} (h : x.ty ≠ 0) : Typed x := by
  obtain ⟨k, n, ms, ns, ks⟩ := x
  unfold PE.ty at h
  by_cases h1 : k = 1
  · rw [if_pos h1] at h
    by_cases h2 : ms.length + ns.length + ks.length = 0
    · obtain rfl : ms = [] := List.eq_nil_of_length_eq_zero (by omega)
      obtain rfl : ns = [] := List.eq_nil_of_length_eq_zero (by omega)
      obtain rfl : ks = [] := List.eq_nil_of_length_eq_zero (by omega)
      subst h1; exact .num n
    · rw [if_neg h2] at h; exact absurd rfl h
  · rw [if_neg h1] at h
    by_cases h2 : k = 2
    · rw [if_pos h2] at h
      by_cases h3 : ns.length + ks.length = 0 ∧ rightM ms = true ∧ 1 ≤ n ∧ n ≤ 1048576
      · obtain rfl : ns = [] := List.eq_nil_of_length_eq_zero (by omega)
        obtain rfl : ks = [] := List.eq_nil_of_length_eq_zero (by omega)
        subst h2; exact .pick n ms h3.2.1 h3.2.2.1 h3.2.2.2
      · rw [if_neg h3] at h; exact absurd rfl h
    · rw [if_neg h2] at h
      by_cases h3 : ms.length = 0 ∧ n = 0
      · rw [if_neg (by simpa using h3)] at h
        obtain ⟨hm, rfl⟩ := h3
        obtain rfl : ms = [] := List.eq_nil_of_length_eq_zero hm
        by_cases h4 : wordX k ≠ ⟨#[]⟩
        · rw [if_pos h4] at h
          have hk := word_kinds h4
          unfold oneT at h
          by_cases h5 : namesF ns = true ∧ tysP ks = [2]
          · obtain ⟨h5, h6⟩ := h5
            match ks, h6 with
            | [], h6 => simp [tysP] at h6
            | [a], h6 => simp [tysP] at h6; exact .one k ns a hk.1 hk.2 h5 h6
            | a :: b :: l, h6 => simp [tysP] at h6
          · rw [if_neg h5] at h; exact absurd rfl h
        · rw [if_neg h4] at h
          by_cases h5 : signX k ≠ ⟨#[]⟩
          · rw [if_pos h5] at h
            have hk := sign_kinds h5
            match ns, ks with
            | [], [a, b] =>
              simp only [tysP, twoT] at h
              by_cases h6 : a.ty = 0 ∨ b.ty = 0
              · rw [if_pos h6] at h; exact absurd rfl h
              · exact .two k a b hk.1 hk.2 (fun e => h6 (.inl e)) (fun e => h6 (.inr e))
            | [], [] => exact absurd rfl h
            | [], [a] => exact absurd rfl h
            | [], a :: b :: c :: l => exact absurd rfl h
            | s :: l, _ => exact absurd rfl h
          · rw [if_neg h5] at h; exact absurd rfl h
      · rw [if_pos h3] at h; exact absurd rfl h
end Go.Proofs.YtlmakdclebbbkaaGreat

namespace Go.Proofs.YtlmakdclebbbkaaGreat
open Go.ChangeShapes Go.WideShapes Go.ChangeAt Go.RowKit
set_option linter.unusedVariables false
set_option linter.unusedSimpArgs false
set_option maxRecDepth 100000
theorem kidT_cells0 {V : World} {ad : Addr} {u0 u1 u2 u3 u4 : Value} {r : List Value} (h : ∀ j u, (u0 :: u1 :: u2 :: u3 :: u4 :: r)[j]? = some u → V.cell? (ad.add j) = some u) :
    V.cell? ad = some u0 ∧ V.cell? ⟨ad.block, ad.off + 1, none⟩ = some u1 ∧ V.cell? ⟨ad.block, ad.off + 2, none⟩ = some u2 ∧ V.cell? ⟨ad.block, ad.off + 3, none⟩ = some u3 ∧ V.cell? ⟨ad.block, ad.off + 4, none⟩ = some u4 := by
  have h0 := h 0 _ rfl
  rw [add_zero'] at h0
  have hs : ∀ j, 0 < j → (⟨ad.block, ad.off + j, none⟩ : Addr) = ad.add j := fun j hj => by
    have := add_spelt ad 0 j hj
    rwa [add_zero', Nat.zero_add] at this
  exact ⟨h0, by rw [hs 1 (by omega)]; exact h 1 _ rfl, by rw [hs 2 (by omega)]; exact h 2 _ rfl, by rw [hs 3 (by omega)]; exact h 3 _ rfl, by rw [hs 4 (by omega)]; exact h 4 _ rfl⟩
theorem kidT_cells5 {V : World} {ad : Addr} {a0 a1 a2 a3 a4 u0 u1 u2 u3 u4 : Value} (h : ∀ j u, [a0, a1, a2, a3, a4, u0, u1, u2, u3, u4][j]? = some u → V.cell? (ad.add j) = some u) :
    V.cell? ⟨ad.block, ad.off + 5, none⟩ = some u0 ∧ V.cell? ⟨ad.block, ad.off + 5 + 1, none⟩ = some u1 ∧ V.cell? ⟨ad.block, ad.off + 5 + 2, none⟩ = some u2 ∧ V.cell? ⟨ad.block, ad.off + 5 + 3, none⟩ = some u3 ∧ V.cell? ⟨ad.block, ad.off + 5 + 4, none⟩ = some u4 := by
  have hs : ∀ j, 0 < j → (⟨ad.block, ad.off + j, none⟩ : Addr) = ad.add j := fun j hj => by
    have := add_spelt ad 0 j hj
    rwa [add_zero', Nat.zero_add] at this
  exact ⟨by rw [hs 5 (by omega)]; exact h 5 _ rfl, by rw [Nat.add_assoc, hs _ (by omega)]; exact h 6 _ rfl, by rw [Nat.add_assoc, hs _ (by omega)]; exact h 7 _ rfl, by rw [Nat.add_assoc, hs _ (by omega)]; exact h 8 _ rfl, by rw [Nat.add_assoc, hs _ (by omega)]; exact h 9 _ rfl⟩
structure T2At (w : World) (bx d : Nat) (kk nn : Int) (v2 v3 : Value) (ad : Addr) (c3 : Nat) (a b : XE) (W : World) : Prop where
  bel : Below w.heap.size w W
  box : Blk W bx 37 [.int .i64 kk, .int .i64 nn, v2, v3, .slice (some ad) 2 c3]
  see : Sees W W.heap.size 5 (some ad) 2 (kcells [a, b])
  oka : okX d a W
  okb : okX d b W
theorem T2At.below {w W W' : World} {bx d c3 : Nat} {kk nn : Int} {v2 v3 : Value} {ad : Addr} {a b : XE} (h : T2At w bx d kk nn v2 v3 ad c3 a b W) (hb : Below W.heap.size W W') : T2At w bx d kk nn v2 v3 ad c3 a b W' :=
  ⟨h.bel.trans (hb.mono h.bel.size), h.box.below hb h.box.lt, (h.see.below hb).more hb.size, okX_below hb d a h.oka, okX_below hb d b h.okb⟩
theorem T2At.cell {w W : World} {bx d c3 : Nat} {kk nn : Int} {v2 v3 : Value} {ad : Addr} {a b : XE} (h : T2At w bx d kk nn v2 v3 ad c3 a b W) : ∀ j u, [.int .i64 a.kd, .int .i64 a.n, a.mv, a.nv, a.kv, .int .i64 b.kd, .int .i64 b.n, b.mv, b.nv, b.kv][j]? = some u → W.cell? (ad.add j) = some u := by
  obtain ⟨ad', e, _, hc⟩ := h.see.at_ (by omega)
  injection e with e
  subst e
  exact hc
end Go.Proofs.YtlmakdclebbbkaaGreat
