/- Texts, merged in one. -/
import Derived.Test.YtlmakdclebbbkaaGreatBase18
import Derived.Test.YtlmakdclebbbkaaGreatBase12
import Derived.Test.YtlmakdclebbbkaaGreatBase11
import Derived.Test.YtlmakdclebbbkaaGreatBase10
import Derived.Test.YtlmakdclebbbkaaGreatRows
import Derived.Test.YtlmakdclebbbkaaGreatBase5
import Derived.Test.YtlmakdclebbbkaaGreatBase4
import Derived.Test.YtlmakdclebbbkaaGreatBase
import Derived.Maps.OwnOps
import Derived.Maps.OwnSet
import Derived.Maps.Views
import Derived.StringKeys
import Derived.WalkKit
import Derived.Test.YtlmakdclebbbkaaGreatBase6
namespace Go.Proofs.YtlmakdclebbbkaaGreat
open Go.ChangeShapes Go.WideShapes Go.ChangeAt Go.RowKit
set_option linter.unusedVariables false
set_option linter.unusedSimpArgs false
set_option maxRecDepth 100000
inductive Chk (sz : Nat) : List RowT → List RowT → Prop
  | nil : Chk sz [] []
  | cons (A B B' : List RowT) : A.length = sz → Chk sz B B' → Chk sz (A ++ B) (sortK RowT.key A ++ B')
  | last (A : List RowT) : A ≠ [] → A.length < sz → Chk sz A (sortK RowT.key A)
theorem Chk.len {sz : Nat} {L M : List RowT} (h : Chk sz L M) : M.length = L.length := by
  induction h with
  | nil => rfl
  | cons A B B' _ _ ih => rw [List.length_append, List.length_append, sortK_length, ih]
  | last A _ _ => exact sortK_length _ _
theorem sortK_nil : sortK RowT.key [] = [] := rfl
theorem Chk.small {sz : Nat} {L M : List RowT} (h : Chk sz L M) (hl : L.length ≤ sz) (h0 : 0 < sz) : M = sortK RowT.key L := by
  cases h with
  | nil => rfl
  | cons A B B' hA hB =>
    rw [List.length_append] at hl
    obtain rfl : B = [] := List.eq_nil_of_length_eq_zero (by omega)
    obtain rfl : B' = [] := List.eq_nil_of_length_eq_zero (by rw [hB.len]; rfl)
    rw [List.append_nil, List.append_nil]
  | last A _ _ => rfl
theorem Chk.big {sz : Nat} {L M : List RowT} (h : Chk sz L M) (hl : sz ≤ L.length) (h0 : 0 < sz) : ∃ A B B', L = A ++ B ∧ M = sortK RowT.key A ++ B' ∧ A.length = sz ∧ Chk sz B B' := by
  cases h with
  | nil => simp at hl; omega
  | cons A B B' hA hB => exact ⟨A, B, B', rfl, rfl, hA, hB⟩
  | last A _ h2 => omega
theorem chk_of {sz : Nat} {L : List RowT} (h : L.length < sz) : Chk sz L (sortK RowT.key L) := by
  by_cases e : L = []
  · subst e; exact .nil
  · exact .last L e h
set_option maxHeartbeats 8000000 in
theorem stableG_any (w0 : World) (base g n c : Nat) (L : List RowT) (w : World) (h : SrtAt w0 base g n c L w) (hn : n ≤ 1000000) :
    Calls Tryz.prog 140 #[.slice (some ⟨g, 0, none⟩) n c, .int .i64 n, .func (.func 105) #[] #[]] w fun e w' => e = .returned (.tuple #[]) ∧ SrtAt w0 base g n c (sortK RowT.key L) w' := by
  have hL := h.len
  have H0 := Lib.hid h
  have HLN := Lib.hid hL
  clear h hL
  go_enter Tryz.func140, Tryz.ntmps140
  go_wp2_with fail
  go_loopg [7, 8] n (fun gk x7 x8 wr => ∃ (i j : Nat) (D A R : List RowT), j = i + 20 ∧ x7 = .int .i64 i ∧ x8 = .int .i64 j ∧ i ≤ n ∧ n - i ≤ gk ∧ L = A ++ R ∧ A.length = i ∧ D.length = i ∧ SrtAt w0 base g n c (D ++ R) wr ∧ (∀ B B', Chk 20 B B' → Chk 20 (A ++ B) (D ++ B')))
  case atStart => exact ⟨0, 20, [], [], L, rfl, rfl, rfl, Nat.zero_le _, by omega, rfl, rfl, rfl, H0.out, fun B B' h => h⟩
  case round =>
    obtain ⟨i, j, D, A, R, hj, rfl, rfl, hin, hgk, hLe, hA, hD, hs, hck⟩ := hrel
    have HS := Lib.hid hs; have HCK := Lib.hid hck; have HLE := Lib.hid hLe
    have hR : R.length = n - i := by have := HLN.out; rw [hLe, List.length_append] at this; omega
    have hjA := Nat.le_of_eq hj; have hjB := Nat.le_of_eq hj.symm
    clear hs hck hLe H0 hj
    by_cases hjn : j ≤ n
    case pos =>
      have hjn2 : (j : Int) ≤ n := by omega
      cases gk with
      | zero => omega
      | succ gq =>
      have e1 : R = R.take 20 ++ R.drop 20 := (List.take_append_drop _ _).symm
      have l1 : (R.take 20).length = 20 := by rw [List.length_take]; omega
      have HC := Lib.hid (insseg_any w0 base g n c i j D (R.take 20) (R.drop 20) wr (by rw [← e1]; exact HS.out) hD (by omega) (by omega) hn)
      have HCK2 := Lib.hid (fun B B' (hB : Chk 20 B B') => show Chk 20 ((A ++ R.take 20) ++ B) ((D ++ sortK RowT.key (R.take 20)) ++ B') by
        have h := HCK.out _ _ (Chk.cons _ _ _ l1 hB)
        rwa [← List.append_assoc A, ← List.append_assoc D] at h)
      have HLE2 := Lib.hid (show L = (A ++ R.take 20) ++ R.drop 20 by rw [HLE.out, List.append_assoc, ← e1])
      have hl2 : (A ++ R.take 20).length = j := by rw [List.length_append]; omega
      have hl3 : (D ++ sortK RowT.key (R.take 20)).length = j := by rw [List.length_append, sortK_length]; omega
      clear HS HCK HLE e1
      have hw : IntKind.i64.wrap ((j : Int) + 20) = ((j + 20 : Nat) : Int) := by rw [IntKind.wrap_i64]; omega
      have hw2 : (j : Int) + 20 = ((j + 20 : Nat) : Int) := by omega
      obtain ⟨j2, hj2⟩ : ∃ q, j + 20 = q := ⟨_, rfl⟩
      rw [hj2] at hw hw2
      go_wp2_with fail
      (with_reducible refine HC.out.mono ?_); rintro e w1 ⟨rfl, hs⟩
      have HS1 := Lib.hid hs
      clear hs HC
      go_wp2_with fail
      go_roundg gq
      case measure => omega
      case rel => exact ⟨j, j2, D ++ sortK RowT.key (R.take 20), A ++ R.take 20, R.drop 20, hj2.symm, rfl, rfl, hjn, by omega, HLE2.out, hl2, hl3, by rw [List.append_assoc]; exact HS1.out, HCK2.out⟩
    case neg =>
      have hjn2 : ¬ (j : Int) ≤ n := by omega
      have hjn3 : (n : Int) < j := by omega
      have HC : Hid (Calls Tryz.prog 165 #[.slice (some ⟨g, 0, none⟩) n c, .int .i64 i, .int .i64 n, .func (.func 105) #[] #[]] wr fun e w' => e = .returned (.tuple #[]) ∧ SrtAt w0 base g n c (D ++ sortK RowT.key R) w') := Lib.hid (by
        rcases Nat.eq_zero_or_pos R.length with h0 | h0
        · obtain rfl : R = [] := List.eq_nil_of_length_eq_zero h0
          obtain rfl : i = n := by simp at hR; omega
          exact (insseg_zero (some ⟨g, 0, none⟩) i c i wr (by omega)).mono fun e w' hh => ⟨hh.1, by rw [← hh.2, sortK_nil]; exact HS.out⟩
        · have hc := insseg_any w0 base g n c i n D R [] wr (by rw [List.append_nil]; exact HS.out) hD (by omega) h0 hn
          rw [List.append_nil] at hc; exact hc)
      have HK0 := Lib.hid (show Chk 20 L (D ++ sortK RowT.key R) by rw [HLE.out]; exact HCK.out _ _ (chk_of (by omega)))
      clear HS HCK HLE hR hgk
      go_wp2_with fail
      (with_reducible refine HC.out.mono ?_); rintro e w1 ⟨rfl, hs⟩
      have HS1 := Lib.hid hs
      clear hs HC
      go_wp2_with fail
      go_loopg [6] n (fun gk x6 wr => ∃ (sz : Nat) (M : List RowT), x6 = .int .i64 sz ∧ 0 < sz ∧ sz ≤ 2000000 ∧ n - sz ≤ gk ∧ Chk sz L M ∧ SrtAt w0 base g n c M wr)
      case atStart => exact ⟨20, _, rfl, by omega, by omega, by omega, HK0.out, HS1.out⟩
      case round =>
      obtain ⟨sz, M, rfl, hz0, hz2, hgk, hck, hs⟩ := hrel
      have HS := Lib.hid hs; have HCK := Lib.hid hck
      clear hs hck HS1 HK0
      by_cases hzn : sz < n
      case neg =>
        have hzn2 : ¬ (sz : Int) < n := by omega
        have HF := Lib.hid (show SrtAt w0 base g n c (sortK RowT.key L) wr by rw [← HCK.out.small (by have := HLN.out; omega) hz0]; exact HS.out)
        go_wp2_with fail
        go_end0
        exact ⟨rfl, HF.out⟩
      case pos =>
      cases gk with
      | zero => omega
      | succ gz =>
      have hzn2 : (sz : Int) < n := by omega
      obtain ⟨s2, hs2⟩ : ∃ q, 2 * sz = q := ⟨_, rfl⟩
      have hv1 : IntKind.i64.wrap (2 * (sz : Int)) = (s2 : Int) := by rw [IntKind.wrap_i64]; omega
      have hv2 : 2 * (sz : Int) = (s2 : Int) := by omega
      have hv3 : IntKind.i64.wrap ((sz : Int) * 2) = (s2 : Int) := by rw [IntKind.wrap_i64]; omega
      have hv4 : (sz : Int) * 2 = (s2 : Int) := by omega
      go_wp2_with fail
      go_loopg [7, 8] n (fun gk x7 x8 wr => ∃ (i j : Nat) (D A R R' : List RowT), j = i + s2 ∧ x7 = .int .i64 i ∧ x8 = .int .i64 j ∧ i ≤ n ∧ n - i ≤ gk ∧ L = A ++ R ∧ A.length = i ∧ D.length = i ∧ Chk sz R R' ∧ SrtAt w0 base g n c (D ++ R') wr ∧ (∀ B B', Chk s2 B B' → Chk s2 (A ++ B) (D ++ B')))
      case atStart => exact ⟨0, s2, [], [], L, M, by omega, rfl, rfl, Nat.zero_le _, by omega, rfl, rfl, rfl, HCK.out, HS.out, fun B B' h => h⟩
      case round =>
      obtain ⟨i, j, D, A, R, R', hj, rfl, rfl, hin, hgk2, hLe, hA, hD, hck, hs, hall⟩ := hrel
      have HS2 := Lib.hid hs; have HALL := Lib.hid hall; have HLE := Lib.hid hLe; have HCK2 := Lib.hid hck
      have hR : R.length = n - i := by have := HLN.out; rw [hLe, List.length_append] at this; omega
      have hjA := Nat.le_of_eq hj; have hjB := Nat.le_of_eq hj.symm
      clear hs hall hLe hck HS HCK hj
      obtain ⟨mm, hmm⟩ : ∃ q, i + sz = q := ⟨_, rfl⟩
      have hm1 : IntKind.i64.wrap ((i : Int) + (sz : Int)) = (mm : Int) := by rw [IntKind.wrap_i64]; omega
      have hm2 : (i : Int) + (sz : Int) = (mm : Int) := by omega
      by_cases hjn : j ≤ n
      case pos =>
        have hjn2 : (j : Int) ≤ n := by omega
        cases gk with
        | zero => omega
        | succ gq =>
        obtain ⟨A1, B1, B1', rfl, rfl, hl1, hk1⟩ := HCK2.out.big (by omega) hz0
        rw [List.length_append] at hR
        obtain ⟨A2, B2, B2', rfl, rfl, hl2, hk2⟩ := hk1.big (by omega) hz0
        rw [List.length_append] at hR
        have HK := Lib.hid hk2
        have hc := symm_any (s2) w0 base g n c i mm j D (sortK RowT.key A1) (sortK RowT.key A2) B2' wr HS2.out hD (by rw [sortK_length]; omega) (by rw [sortK_length]; omega) (by rw [sortK_length]; omega) (by rw [sortK_length]; omega) (by rw [sortK_length, sortK_length]; omega) (sortK_sorted _ _) (sortK_sorted _ _) hn
        rw [sort_blocks] at hc
        have HC := Lib.hid hc
        have hl3 : (A1 ++ A2).length = s2 := by rw [List.length_append]; omega
        have HALL2 := Lib.hid (fun B B' (hB : Chk s2 B B') => show Chk s2 ((A ++ (A1 ++ A2)) ++ B) ((D ++ sortK RowT.key (A1 ++ A2)) ++ B') by
          have h := HALL.out _ _ (Chk.cons _ _ _ hl3 hB)
          rwa [← List.append_assoc A, ← List.append_assoc D] at h)
        have HLE2 := Lib.hid (show L = (A ++ (A1 ++ A2)) ++ B2 by rw [HLE.out]; simp only [List.append_assoc])
        have hl4 : (A ++ (A1 ++ A2)).length = j := by rw [List.length_append]; omega
        have hl5 : (D ++ sortK RowT.key (A1 ++ A2)).length = j := by rw [List.length_append, sortK_length]; omega
        obtain ⟨j2, hj2⟩ : ∃ q, j + s2 = q := ⟨_, rfl⟩
        have hw : IntKind.i64.wrap ((j : Int) + (s2 : Int)) = (j2 : Int) := by rw [IntKind.wrap_i64]; omega
        have hw2 : (j : Int) + (s2 : Int) = (j2 : Int) := by omega
        clear hc HS2 HALL HLE HCK2 hk1 hk2
        go_wp2_with fail
        (with_reducible refine HC.out.mono ?_); rintro e w2 ⟨rfl, hs⟩
        have HS3 := Lib.hid hs
        clear hs HC
        go_wp2_with fail
        go_roundg gq
        case measure => omega
        case rel => exact ⟨j, j2, D ++ sortK RowT.key (A1 ++ A2), A ++ (A1 ++ A2), B2, B2', hj2.symm, rfl, rfl, hjn, by omega, HLE2.out, hl4, hl5, HK.out, by rw [List.append_assoc]; exact HS3.out, HALL2.out⟩
      case neg =>
        have hjn2 : ¬ (j : Int) ≤ n := by omega
        have hjn3 : (n : Int) < j := by omega
        by_cases hmn : mm < n
        case pos =>
          have hmn2 : (mm : Int) < n := by omega
          obtain ⟨A1, B1, B1', rfl, rfl, hl1, hk1⟩ := HCK2.out.big (by omega) hz0
          rw [List.length_append] at hR
          obtain rfl := hk1.small (by omega) hz0
          have hc := symm_any (s2) w0 base g n c i mm n D (sortK RowT.key A1) (sortK RowT.key B1) [] wr (by rw [List.append_nil]; exact HS2.out) hD (by rw [sortK_length]; omega) (by rw [sortK_length]; omega) (by rw [sortK_length]; omega) (by rw [sortK_length]; omega) (by rw [sortK_length, sortK_length]; omega) (sortK_sorted _ _) (sortK_sorted _ _) hn
          rw [sort_blocks, List.append_nil] at hc
          have HC := Lib.hid hc
          have HK := Lib.hid (show Chk s2 L (D ++ sortK RowT.key (A1 ++ B1)) by rw [HLE.out]; exact HALL.out _ _ (chk_of (by rw [List.length_append]; omega)))
          clear hc HS2 HALL HLE HCK2 hk1
          go_wp2_with fail
          (with_reducible refine HC.out.mono ?_); rintro e w2 ⟨rfl, hs⟩
          have HS3 := Lib.hid hs
          clear hs HC
          go_wp2_with fail
          go_roundg gz
          case measure => omega
          case rel => exact ⟨s2, _, rfl, by omega, by omega, by omega, HK.out, HS3.out⟩
        case neg =>
          have hmn2 : ¬ (mm : Int) < n := by omega
          have hrs := HCK2.out.small (by omega) hz0
          subst hrs
          have HK := Lib.hid (show Chk s2 L (D ++ sortK RowT.key R) by rw [HLE.out]; exact HALL.out _ _ (chk_of (by omega)))
          clear HALL HLE HCK2
          go_wp2_with fail
          go_roundg gz
          case measure => omega
          case rel => exact ⟨s2, _, rfl, by omega, by omega, by omega, HK.out, HS2.out⟩
theorem stable_big (base : Nat) (A : Option Addr) (n c : Nat) (L : List RowT) (w : World) (h : w.ownsRow base 163 3 (.slice A n c) n (rts L)) (hn : n ≤ 1000000) :
    Calls Tryz.prog 140 #[.slice A n c, .int .i64 n, .func (.func 105) #[] #[]] w fun e w' => e = .returned (.tuple #[]) ∧ w'.ownsRow base 163 3 (.slice A n c) n (rts (sortK RowT.key L)) ∧ w.grownBy w' (Value.slice A n c).ownBlock := by
  rcases Nat.eq_zero_or_pos n with h0 | h0
  · subst h0
    exact stable_any base A 0 c L w h (by omega)
  · obtain ⟨g, cap, hv, _, hlt⟩ := h.form h0
    injection hv with hv _ hc; subst hv; subst hc
    exact (stableG_any w base g n c L w ⟨h, World.grownBy.refl _ _⟩ hn).mono fun e w' hh => ⟨hh.1, hh.2.own, hh.2.gr⟩
theorem sortStable_big (base : Nat) (A : Option Addr) (n c : Nat) (L : List RowT) (w : World) (h : w.ownsRow base 163 3 (.slice A n c) n (rts L)) (hn : n ≤ 1000000) :
    Calls Tryz.prog 104 #[.slice A n c, .func (.func 105) #[] #[]] w fun e w' => e = .returned (.tuple #[]) ∧ w'.ownsRow base 163 3 (.slice A n c) n (rts (sortK RowT.key L)) ∧ w.grownBy w' (Value.slice A n c).ownBlock := by
  have HC := Lib.hid (stable_big base A n c L w h hn)
  clear h
  go_enter Tryz.func104, Tryz.ntmps104
  go_wp2_with fail
  (with_reducible refine HC.out.mono ?_); rintro e w1 ⟨rfl, ho, hg⟩
  have HO := Lib.hid ho; have HG := Lib.hid hg
  clear ho hg HC
  go_wp2_with fail
  go_end0
  exact ⟨rfl, HO.out, HG.out⟩
end Go.Proofs.YtlmakdclebbbkaaGreat

namespace Go.Proofs.YtlmakdclebbbkaaGreat
open Go.ChangeShapes Go.WideShapes Go.ChangeAt Go.RowKit
set_option linter.unusedVariables false
set_option linter.unusedSimpArgs false
set_option maxRecDepth 100000
def nameB : ByteArray := ⟨#[110, 97, 109, 101]⟩
def bareL (l : List Lbl) : List Lbl := l.filter fun x => !hasS [nameB] x.1
set_option maxHeartbeats 1000000 in
theorem key_any (A : Option Addr) (n c : Nat) (l : List Lbl) (z : Int) (w : World) (h : Sees w w.heap.size 2 A n (lbls l)) (hn : n ≤ 100000) :
    Calls Tryz.prog 55 #[.agg #[.slice A n c, .int .i64 z]] w (OwnAns 25 2 (bareL l).length (lbls (bareL l)) w) := by
  have hb1 := (Below.refl w.heap.size w).alloc (Nat.le_refl _) (.cells #[.slice A n c, .int .i64 z] 43)
  have HB1 := Lib.hid hb1
  have HBX := Lib.hid (Blk.mk (heap_alloc_new w (.cells #[.slice A n c, .int .i64 z] 43)) : Blk _ w.heap.size 43 [.slice A n c, .int .i64 z])
  have HC := Lib.hid (fun (V : World) (hV : Below w.heap.size w V) (g : Nat) (hg : Blk V g 9 [.string nameB]) => drop_any A (some ⟨g, 0, none⟩) n c 1 1 w.heap.size V.heap.size l [nameB] V (h.below hV) hV.size hn (hg.sees rfl (List.prefix_refl _)) (Nat.le_refl _) (by omega))
  clear h hb1
  go_enter Tryz.func55, Tryz.ntmps55
  go_upto_region 1 with fail
  generalize w.alloc (.cells #[.slice A n c, .int .i64 z] 43) = W1 at *
  have z0 := HBX.out.cell 0
  simp only [List.getElem?_cons_zero] at z0
  have hs := HB1.out.size
  have HB2 := Lib.hid (HB1.out.alloc hs (.cells #[.string nameB] 9))
  have HN := Lib.hid (Blk.mk (heap_alloc_new W1 (.cells #[.string nameB] 9)) : Blk _ W1.heap.size 9 [.string nameB])
  have HD := Lib.hid (HC.out _ HB2.out _ HN.out)
  unfold nameB at HD
  go_wp2_with fail
  (with_reducible refine HD.out.mono ?_); rintro e w3 ⟨A', c', rfl, hown, hb, h1, h2⟩
  have HF : Hid (OwnAns 25 2 (bareL l).length (lbls (bareL l)) w (.returned (.slice A' (bareL l).length c')) w3) := Lib.hid ⟨A', c', rfl, own_mono hown HB2.out.size, HB2.out.trans (hb.mono HB2.out.size), h1, h2⟩
  clear hown hb h1 h2 HD HN HC z0
  go_wp2_with fail
  go_ret
  exact HF.out
set_option maxHeartbeats 1000000 in
theorem keyText_any (A : Option Addr) (n c : Nat) (l : List Lbl) (z : Int) (w : World) (h : Sees w w.heap.size 2 A n (lbls l)) (hn : n ≤ 100000) :
    Calls Tryz.prog 53 #[.agg #[.slice A n c, .int .i64 z]] w fun e w' => e = .returned (.string ⟨(printL (bareL l)).toArray⟩) ∧ Below w.heap.size w w' := by
  have hb1 := (Below.refl w.heap.size w).alloc (Nat.le_refl _) (.cells #[.slice A n c, .int .i64 z] 43)
  have HB1 := Lib.hid hb1
  have HBX := Lib.hid (Blk.mk (heap_alloc_new w (.cells #[.slice A n c, .int .i64 z] 43)) : Blk _ w.heap.size 43 [.slice A n c, .int .i64 z])
  have HC := Lib.hid (key_any A n c l z (w.alloc (.cells #[.slice A n c, .int .i64 z] 43)) ((h.below hb1).more hb1.size) hn)
  have hbl : (bareL l).length ≤ l.length := List.length_filter_le _ _
  have hll := h.lbl_len
  have HL := Lib.hid (show (bareL l).length ≤ 100000 by omega)
  clear h hb1 hbl hll
  go_enter Tryz.func53, Tryz.ntmps53
  go_upto_region 1 with fail
  generalize w.alloc (.cells #[.slice A n c, .int .i64 z] 43) = W1 at *
  have z0 := HBX.out.cell 0
  have z1 := HBX.out.cell 1
  simp only [List.getElem?_cons_zero, List.getElem?_cons_succ] at z0 z1
  go_wp2_with fail
  (with_reducible refine HC.out.mono ?_); rintro e w3 ⟨A', c', rfl, hown, hb, h1, h2⟩
  have HB3 := Lib.hid (HB1.out.trans (hb.mono HB1.out.size))
  have HP := Lib.hid (print_any A' (bareL l).length c' (bareL l) w3.heap.size w3 (Sees.of_own hown) (Nat.le_refl _) (by have := HL.out; omega))
  clear hown hb h1 h2 HC z0 z1
  go_wp2_with fail
  (with_reducible refine HP.out.mono ?_); rintro e w4 ⟨rfl, hb4⟩
  have HB4 := Lib.hid (HB3.out.trans (hb4.mono HB3.out.size))
  clear hb4 HP
  go_wp2_with fail
  go_ret
  exact ⟨rfl, HB4.out⟩
end Go.Proofs.YtlmakdclebbbkaaGreat

namespace Go.Proofs.YtlmakdclebbbkaaGreat
open Go.RowKit Go.Maps
set_option linter.unusedVariables false
set_option maxRecDepth 100000
theorem keyedSI : Keyed Tryz.prog 9 := string_keyed Tryz.underlying9
theorem zeroIS (w : World) : (zeroValue 3).run Tryz.prog w = .ok (.int .i64 0) w := by kernel_rfl
theorem keySI {t : ByteArray} (h : t.size ≤ maxLen) : keyOf Tryz.prog 9 (.string t) = some (.string t.data.toList) := Go.WideMaps.keyOf_string_mk Tryz.underlying9 h
theorem wf_i64' {t : Int} (h : I64 t) : (Lit.int .i64 t).wf = true := by
  simpa [Lit.wf, IntKind.min, IntKind.max, IntKind.signed, IntKind.bits, I64] using h
def IMap (w : World) (b n : Nat) (f : List UInt8 → Option Int) (m : Nat) : Prop :=
  ∃ D : DataW Unit, w.ownsMap Tryz.prog 9 (plainElem Tryz.prog 3) b n D ∧ Tidy D ∧ (∀ t : List UInt8, D.atKey (.string t) (.lit (.int .i64 0)) = .lit (.int .i64 ((f t).getD 0))) ∧ (∀ t : List UInt8, has D (.string t) = (f t).isSome) ∧ size D = m
theorem IMap.made (w : World) : IMap (w.alloc (.map #[] 0)) w.heap.size 0 (fun _ => none) 0 :=
  ⟨.map [], World.ownsMap_made _ _ _ _, tidy_empty, fun t => rfl, fun t => rfl, rfl⟩
theorem IMap.lt {w : World} {b n m : Nat} {f : List UInt8 → Option Int} (h : IMap w b n f m) : b < w.heap.size := by obtain ⟨D, h, _⟩ := h; exact h.lt
theorem IMap.kept {w w' : World} {b n m : Nat} {f : List UInt8 → Option Int} {row : Option Nat} (h : IMap w b n f m) (hg : w.grownBy w' row) (hne : some b ≠ row) : IMap w' b n f m := by
  obtain ⟨D, h, h2⟩ := h; exact ⟨D, h.kept hg hne, h2⟩
theorem IMap.widen {w : World} {b n n' m : Nat} {f : List UInt8 → Option Int} (h : IMap w b n f m) (hn : n ≤ n') : IMap w b n' f m := by
  obtain ⟨D, ⟨es, clock, h1, F, hs, hD⟩, h2⟩ := h
  exact ⟨D, ⟨es, clock, h1, F, by omega, hD⟩, h2⟩
theorem IMap.below {w w' : World} {b n m : Nat} {f : List UInt8 → Option Int} (h : IMap w b n f m) (hb : Below w.heap.size w w') : IMap w' b n f m :=
  h.kept (row := none) ⟨hb.os, hb.tape, hb.output, hb.size, fun i hi _ => hb.block i hi⟩ (by simp)
theorem IMap.drewN {w : World} {b n m : Nat} {f : List UInt8 → Option Int} (h : IMap w b n f m) (q : Nat) : IMap (w.drewN q) b n f m := h
theorem IMap.look {w : World} {b n m : Nat} {f : List UInt8 → Option Int} (h : IMap w b n f m) {t : ByteArray} (ht : t.size ≤ maxLen) :
    (Instr.lookup 118 (.map (some b)) (.string t) true).run Tryz.prog w = .ok (.tuple #[.int .i64 ((f t.data.toList).getD 0), .bool (f t.data.toList).isSome]) w := by
  obtain ⟨D, h, _, hf, hh, _⟩ := h
  obtain ⟨v, ps, hrun, hv⟩ := h.look_ok keyedSI Tryz.underlying118 (zeroIS w) (plainElem_int Tryz.underlying3 (show (Lit.int .i64 0).wf = true by decide)) (keySI ht)
  rw [hf] at hv
  obtain ⟨c, rfl, hc, hwc⟩ := plainElem_int_inv Tryz.underlying3 hv
  simp only [Prod.mk.injEq, DataW.lit.injEq, Lit.int.injEq, true_and] at hc
  rw [hh, ← hc.1] at hrun
  exact hrun
theorem IMap.put {w : World} {b n m : Nat} {f : List UInt8 → Option Int} (h : IMap w b n f m) (hn : n < 1000000) {t : ByteArray} (ht : t.size ≤ maxLen) {v : Int} (hv : I64 v) :
    ∃ w', (Instr.mapUpdate 118 (.map (some b)) (.string t) (.int .i64 v)).run Tryz.prog w = .ok () w' ∧ IMap w' b (n + 1) (fun x => if x = t.data.toList then some v else f x) (if (f t.data.toList).isSome = true then m else m + 1) ∧ w.grownBy w' (some b) := by
  obtain ⟨D, h, hm, hf, hh, hsz⟩ := h
  obtain ⟨w', hrun, h2, h3⟩ := h.update keyedSI Tryz.underlying118 (by unfold maxLen; omega) (keySI ht) (plainElem_int Tryz.underlying3 (wf_i64' hv))
  refine ⟨w', hrun, ⟨_, h2, hm.put (show WideAt.IsKeyLit (.string t.data.toList) from trivial) _, fun x => ?_, fun x => ?_, ?_⟩, h3⟩
  · by_cases hx : x = t.data.toList
    · subst hx
      rw [atKey_put_same (k := .string t.data.toList) hm.isMap (show WideAt.IsKeyLit (.string t.data.toList) from trivial)]
      simp
    · rw [atKey_put_other (by intro e; injection e with e; exact hx e), hf]
      simp only [if_neg hx]
  · by_cases hx : x = t.data.toList
    · subst hx
      rw [has_put_same hm.isMap (show WideAt.IsKeyLit (.string t.data.toList) from trivial)]
      simp
    · rw [has_put_other (by intro e; injection e with e; exact hx e), hh]
      simp only [if_neg hx]
  · rw [size_put hm, hh, hsz]
theorem wpList_put_imap {P : Program} {w : World} {ops : Array Oper} {rest : List Oper} {o : Oper} {a : Act} {Q : Exit → Act → World → Prop} (hg : o.guard = none) (m x v : Operand) (t : TypeId) (hop : o.op = Op.mapUpdate t m x v)
    (vm vx vv : Value) (hm : a.eval m = vm) (hx : a.eval x = vx) (hv : a.eval v = vv) (w' : World) (hrun : (Instr.mapUpdate t vm vx vv).run P w = .ok () w') (hK : wpList P ops Q rest (a.put o.dst undef) w') : wpList P ops Q (o :: rest) a w := by
  refine wpList_plain hg fun K' hK' => ?_
  unfold Oper.wp
  simp [execOp, hop, hm, hx, hv, hrun, Result.andThen]
  exact hK' _ _ hK
theorem wpList_len_imap {w : World} {ops : Array Oper} {rest : List Oper} {o : Oper} {a : Act} {Q : Exit → Act → World → Prop} (hg : o.guard = none) (mo : Operand)
    (hop : o.op = Op.call { callee := Callee.builtin Builtin.len, args := #[mo], argTypes := #[118] }) (b n m : Nat) (f : List UInt8 → Option Int) (hm : a.eval mo = .map (some b)) (h : IMap w b n f m)
    (hK : wpList Tryz.prog ops Q rest (a.put o.dst (.int .i64 m)) w) : wpList Tryz.prog ops Q (o :: rest) a w := by
  obtain ⟨D, h1, _, _, _, hsz⟩ := h
  exact wpList_len_own w hg mo _ hop _ _ Tryz.underlying118 _ b n D hm h1 (by rw [hsz]; exact hK)
end Go.Proofs.YtlmakdclebbbkaaGreat

namespace Go.Proofs.YtlmakdclebbbkaaGreat
open Go.ChangeShapes Go.WideShapes Go.ChangeAt Go.RowKit
set_option linter.unusedVariables false
set_option linter.unusedSimpArgs false
set_option maxRecDepth 100000
def keyT (l : List Lbl) : List UInt8 := printL (bareL l)
def placeK (ks : List (List UInt8)) : Nat → List UInt8 → Option Int
  | 0, _ => none
  | k + 1, t => if (placeK ks k (ks.getD k [])).isSome = true then placeK ks k t else if t = ks.getD k [] then some (k : Int) else placeK ks k t
def placeC (ks : List (List UInt8)) : Nat → Nat
  | 0 => 0
  | k + 1 => if (placeK ks k (ks.getD k [])).isSome = true then placeC ks k else placeC ks k + 1
def keysOf (rows : List PtR) : List (List UInt8) := rows.map fun x => keyT x.set
theorem keysOf_get (rows : List PtR) (k : Nat) (h : k < rows.length) : (keysOf rows).getD k [] = keyT rows[k].set := by
  rw [List.getD_eq_getElem?_getD, List.getElem?_eq_getElem (by simpa [keysOf] using h)]
  simp [keysOf]
theorem printL_size (l : List Lbl) : (⟨(printL l).toArray⟩ : ByteArray).size ≤ 500 := by
  show (printL l).toArray.size ≤ 500
  rw [List.size_toArray]
  cases h : rightS l with
  | true => exact printL_length_le h
  | false => unfold printL; rw [h]; simp
theorem pt_get {base n c : Nat} {A : Option Addr} {rows : List PtR} {w : World} (h : PtsAt base (.slice A n c) rows w) {k : Nat} (hk : k < rows.length) :
    ∃ ad, A = some ad ∧ w.cell? (ad.add (k * 2)) = some rows[k].sv ∧ w.cell? ⟨(ad.add (k * 2)).block, (ad.add (k * 2)).off + 1, none⟩ = some (.int .i64 rows[k].val) ∧ HasL w rows[k].sv rows[k].set := by
  have hr := h.own
  obtain ⟨_, _, e, _⟩ := own_slice hr
  injection e with _ e _; subst e
  obtain ⟨h0, h1⟩ := pts_get rows k hk
  obtain ⟨ad, e, _, hc⟩ := (Sees.of_own hr).at_ (by omega)
  subst e
  exact ⟨ad, rfl, hc _ _ h0, by rw [add_spelt _ _ _ (by omega)]; exact hc _ _ h1, (h.each _ (List.getElem_mem _)).hasL⟩
theorem run_makeMap_hint (n : Nat) (w : World) : (Instr.makeMap 118 (some (.int .i64 n))).run Tryz.prog w = .ok (.map (some w.heap.size)) (w.alloc (.map #[] 0)) := by
  simp [Instr.makeMap, run_underlying Tryz.underlying118, asInt, asIntOf, Result.andThen]
set_option maxHeartbeats 4000000 in
theorem places_any (base : Nat) (A : Option Addr) (c : Nat) (rows : List PtR) (w : World) (h : PtsAt base (.slice A rows.length c) rows w) (hn : rows.length ≤ 1000) (hsl : ∀ x ∈ rows, x.set.length ≤ 1000) :
    Calls Tryz.prog 52 #[.slice A rows.length c] w fun e w' => e = .returned (.map (some w.heap.size)) ∧ IMap w' w.heap.size rows.length (placeK (keysOf rows) rows.length) (placeC (keysOf rows) rows.length) ∧ Below w.heap.size w w' := by
  have H := Lib.hid (fun (V : World) (hV : Below w.heap.size w V) => h.below hV)
  have HSL := Lib.hid hsl
  have HM0 := Lib.hid (IMap.made w)
  have HB0 := Lib.hid ((Below.refl w.heap.size w).alloc (Nat.le_refl _) (.map #[] 0))
  obtain ⟨b, hb⟩ : ∃ b, w.heap.size = b := ⟨_, rfl⟩
  have HB := Lib.hid hb
  rw [hb] at HM0
  have hmm := run_makeMap_hint rows.length w
  obtain ⟨ks, hks⟩ : ∃ k, keysOf rows = k := ⟨_, rfl⟩
  have HKS := Lib.hid (fun k (hk : k < rows.length) => hks ▸ keysOf_get rows k hk)
  rw [hks]
  clear h hsl hks
  obtain ⟨N, hN⟩ : ∃ N, rows.length = N := ⟨_, rfl⟩
  have HN := Lib.hid hN
  rw [hN] at H hn hmm ⊢
  clear hN hb
  go_enter Tryz.func52, Tryz.ntmps52
  go_upto_region 2 with fail
  rw [HB.out]
  have HBE0 := Lib.hid (show w.heap.size ≤ b by rw [HB.out]; exact Nat.le_refl _)
  generalize w.alloc (.map #[] 0) = W1 at *
  clear hmm
  go_wp2_with fail
  go_loopg [14] N (fun g x14 wr => ∃ k : Nat, k + g = N ∧ x14 = .int .i64 k ∧ IMap wr b k (placeK ks k) (placeC ks k) ∧ Below w.heap.size w wr)
  case atStart => exact ⟨0, by omega, rfl, HM0.out, HB0.out⟩
  case round =>
    obtain ⟨k, hkg, rfl, hmap, hbel⟩ := hrel
    have HM := Lib.hid hmap; have HBE := Lib.hid hbel
    clear hmap hbel HM0 HB0
    cases gk with
    | zero =>
      obtain rfl : k = N := by omega
      go_wp2_with fail
      go_ret
      exact ⟨by rw [HB.out]; rfl, by rw [HB.out]; exact HM.out, HBE.out⟩
    | succ g =>
      have hlt : k < rows.length := by have := HN.out; omega
      obtain ⟨ad, hA, e0, e1, A2, c2, hsv, hss, _, _⟩ := pt_get (H.out wr HBE.out) hlt
      have hl := HSL.out rows[k] (List.getElem_mem hlt)
      have hkk := HKS.out k hlt
      subst hA
      generalize rows[k] = q at *
      obtain ⟨sv, l, val⟩ := q
      simp only at e0 e1 hsv hss hl hkk
      subst hsv
      obtain ⟨sl, hsl⟩ : ∃ n, l.length = n := ⟨_, rfl⟩
      rw [hsl] at e0 hss hl
      have ha := (Below.refl wr.heap.size wr).alloc (Nat.le_refl _) (.cells #[.slice A2 sl c2, .int .i64 val] 43)
      have HC := Lib.hid (keyText_any A2 sl c2 l val (wr.alloc (.cells #[.slice A2 sl c2, .int .i64 val] 43)) ((hss.below ha).more ha.size) (by omega))
      have HM2 := Lib.hid (HM.out.below ha)
      have HBE2 := Lib.hid (HBE.out.trans (ha.mono HBE.out.size))
      have hts := printL_size (bareL l)
      obtain ⟨tx, htx⟩ : ∃ t, (⟨(printL (bareL l)).toArray⟩ : ByteArray) = t := ⟨_, rfl⟩
      have HTX := Lib.hid (show tx.data.toList = ks.getD k [] by rw [hkk, ← htx]; simp [keyT])
      rw [htx] at HC hts
      have htm : tx.size ≤ maxLen := by unfold maxLen; omega
      clear hss hl hsl htx ha hkk HM HBE hts
      go_wp2_with fail
      (with_reducible refine HC.out.mono ?_); rintro e w3 ⟨rfl, hb3⟩
      have HM3 := Lib.hid (HM2.out.below hb3)
      have HBE3 := Lib.hid (HBE2.out.trans (hb3.mono HBE2.out.size))
      have hlk := HM3.out.look htm
      rw [HTX.out] at hlk
      have HNF : Hid (∀ t, placeK ks (k + 1) t = if (placeK ks k (ks.getD k [])).isSome = true then placeK ks k t else if t = ks.getD k [] then some (k : Int) else placeK ks k t) := Lib.hid (fun t => rfl)
      have HNC : Hid (placeC ks (k + 1) = if (placeK ks k (ks.getD k [])).isSome = true then placeC ks k else placeC ks k + 1) := Lib.hid rfl
      obtain ⟨w8, hrun8, hm8, hg8⟩ := HM3.out.put (by omega) htm (show I64 (k : Int) by unfold I64; omega)
      rw [HTX.out] at hm8
      have HRUN8 := Lib.hid hrun8; have HM8 := Lib.hid hm8; have HG8 := Lib.hid hg8
      clear hb3 HC HM2 HBE2 hrun8 hm8 hg8
      cases hq : placeK ks k (ks.getD k []) with
      | some x =>
        rw [hq] at hlk
        have HF := Lib.hid (show placeK ks (k + 1) = placeK ks k from funext fun t => by rw [HNF.out, if_pos (by rw [hq]; rfl)])
        have HFC := Lib.hid (show placeC ks (k + 1) = placeC ks k by rw [HNC.out, if_pos (by rw [hq]; rfl)])
        clear hq HM8 HG8 HRUN8
        go_wp2_with fail
        go_roundg g
        case measure => omega
        case rel => exact ⟨k + 1, by omega, by first | rfl | go_num, by rw [HF.out, HFC.out]; exact HM3.out.widen (Nat.le_succ _), HBE3.out⟩
      | none =>
        rw [hq] at hlk
        have HF := Lib.hid (show placeK ks (k + 1) = fun t => if t = ks.getD k [] then some (k : Int) else placeK ks k t from funext fun t => by rw [HNF.out, if_neg (by rw [hq]; simp)])
        have HFC := Lib.hid (show placeC ks (k + 1) = placeC ks k + 1 by rw [HNC.out, if_neg (by rw [hq]; simp)])
        have HM9 := Lib.hid (show IMap w8 b (k + 1) (placeK ks (k + 1)) (placeC ks (k + 1)) by rw [HF.out, HFC.out]; have h := HM8.out; rw [hq, if_neg (by simp)] at h; exact h)
        have HBE9 := Lib.hid (HBE3.out.grown HG8.out HBE3.out.size (fun g e => by injection e with e; have := HBE0.out; omega))
        clear hq HM8 HG8 HF HFC
        go_wp2_with (at_mapUpdate; refine wpList_put_imap rfl (.tmp 29) (.tmp 30) (.tmp 31) 118 rfl (.map (some b)) (.string tx) (.int .i64 k) rfl rfl rfl w8 HRUN8.out ?_)
        go_roundg g
        case measure => omega
        case rel => exact ⟨k + 1, by omega, by first | rfl | go_num, HM9.out, HBE9.out⟩
end Go.Proofs.YtlmakdclebbbkaaGreat
