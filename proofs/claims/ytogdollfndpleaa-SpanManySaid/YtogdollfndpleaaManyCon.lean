/- klaxonlaw14.SpanMany: the contracts as it asks for them. -/
import Derived.Test.YtogdollfndpleaaManyMath
namespace Go.Proofs.Ytogdollfndpleaa
open Go.ChangeShapes Go.WideShapes Go.ChangeAt Go.RowKit
set_option linter.unusedVariables false
set_option maxRecDepth 100000
theorem same_true (A A2 : Option Addr) (n c c2 B B2 : Nat) (F : List (Int × Int)) (w : World) (h : Sees w B 2 A n (smps F)) (h2 : Sees w B2 2 A2 n (smps F)) (hn : n ≤ 9223372036854775807) :
    Calls Try.prog 6 #[.slice A n c, .slice A2 n c2] w fun e w' => e = .returned (.bool true) ∧ ∃ m, w' = w.drewN m := by
  refine (same_spn A A2 n c n c2 B B2 F F w h h2 hn hn).mono ?_
  rintro e w' ⟨rfl, m, rfl⟩
  exact ⟨by simp, m, rfl⟩
/-- A call answers right spans: l, of n spans, in new memory. -/
def SpAns (l : List (Int × Int)) (n : Nat) (w : World) (e : Ending) (w' : World) : Prop :=
  ∃ A c, e = .returned (.slice A n c) ∧ Sees w' w'.heap.size 2 A n (smps l) ∧ Below w.heap.size w w' ∧ n ≤ c ∧ c ≤ 9223372036854775807
theorem of_ans (A : Option Addr) (n c : Nat) (zs : List Int) (F : List (Int × Int)) (nf B : Nat) (w : World) (hF : ofF zs = F) (hnf : F.length = nf) (h : Sees w B 1 A n (ints zs)) (hB : B ≤ w.heap.size) (hn : n ≤ 90000) :
    Calls Try.prog 5 #[.slice A n c] w (SpAns F nf w) := by
  subst hF; subst hnf
  refine (of_any A n c zs B w h hB hn).mono ?_
  rintro e w' ⟨A', c', rfl, hown, hbel, h1, h2⟩
  exact ⟨A', c', rfl, Sees.of_own hown, hbel, h1, h2⟩
theorem join_parts (A A2 : Option Addr) (n c n2 c2 nf : Nat) (L : List Int) (cN : Nat) (F a b : List (Int × Int)) (w : World) (hF : ofF L = F) (hnf : F.length = nf) (ea : ofF (L.take cN) = a) (eb : ofF (L.drop cN) = b)
    (ha : Sees w w.heap.size 2 A n (smps a)) (hb : Sees w w.heap.size 2 A2 n2 (smps b)) (hc : n ≤ c) (hm : c ≤ 9223372036854775807) (hc2 : n2 ≤ c2) (hm2 : c2 ≤ 9223372036854775807) :
    Calls Try.prog 7 #[.slice (some ⟨w.heap.size, 0, none⟩) 2 2] (w.alloc (.cells #[.slice A n c, .slice A2 n2 c2] 24)) (SpAns F nf w) := by
  subst hF; subst hnf; subst ea; subst eb
  refine (join_two A A2 n c n2 c2 _ _ w ha hb (ofF_spec _).1 (ofF_spec _).1 hc hm hc2 hm2).mono ?_
  rintro e w' ⟨r, A', c', rfl, h1, h2, h3, h4, h5, h6⟩
  obtain rfl := of_parts h1 h2
  exact ⟨A', c', rfl, h3, h4, h5, h6⟩
theorem count_spl (A : Option Addr) (n c : Nat) (l : List (Int × Int)) (v : Int) (B : Nat) (w : World) (hl : SpL l) (hv : countF l = v) (h : Sees w B 2 A n (smps l)) (hB : B ≤ w.heap.size) :
    Calls Try.prog 8 #[.slice A n c] w fun e w' => e = .returned (.int .i64 v) ∧ Below w.heap.size w w' := by
  subst hv
  have := hl.len
  have h1 := count_any A n c l B w h hB (by rw [← h.smp_len]; omega)
  rw [hl.clip] at h1
  exact h1
/-- A call answers right spans whose ticks are f, v of them. -/
def CntAns (v : Int) (w : World) (e : Ending) (w' : World) : Prop :=
  ∃ r A n c, e = .returned (.slice A n c) ∧ SpL r ∧ countF r = v ∧ Sees w' w'.heap.size 2 A n (smps r) ∧ Below w.heap.size w w'
/-- What the counts are. -/
def unionN (a b : List (Int × Int)) : Int := cntF (fun j => hasF a j || hasF b j) 200
def meetN (a b : List (Int × Int)) : Int := cntF (fun j => hasF a j && hasF b j) 200
def apartN (a b : List (Int × Int)) : Int := cntF (fun j => hasF a j && !hasF b j) 200
theorem sums_meet {a b : List (Int × Int)} (sa : SpL a) (sb : SpL b) : unionN a b + meetN a b = countF a + countF b ∧ apartN a b = countF a - meetN a b ∧ (0 ≤ unionN a b ∧ unionN a b ≤ 200) ∧ (0 ≤ meetN a b ∧ meetN a b ≤ 200) ∧ (0 ≤ apartN a b ∧ apartN a b ≤ 200) := by
  rw [sa.count, sb.count]
  unfold unionN meetN apartN
  have e1 := cnt_or (fun j : Nat => hasF a j) (fun j : Nat => hasF b j) 200
  have e2 := cnt_less (fun j : Nat => hasF a j) (fun j : Nat => hasF b j) 200
  have e3 := cnt_le (fun j : Nat => hasF a j || hasF b j) 200
  have e4 := cnt_le (fun j : Nat => hasF a j && hasF b j) 200
  have e5 := cnt_le (fun j : Nat => hasF a j && !hasF b j) 200
  refine ⟨by omega, by omega, ⟨by omega, by omega⟩, ⟨by omega, by omega⟩, ⟨by omega, by omega⟩⟩
theorem join_cnt (A A2 : Option Addr) (n c n2 c2 : Nat) (a b : List (Int × Int)) (v : Int) (w : World) (ha : Sees w w.heap.size 2 A n (smps a)) (hb : Sees w w.heap.size 2 A2 n2 (smps b)) (sa : SpL a) (sb : SpL b) (hv : unionN a b = v)
    (hc : n ≤ c) (hm : c ≤ 9223372036854775807) (hc2 : n2 ≤ c2) (hm2 : c2 ≤ 9223372036854775807) :
    Calls Try.prog 7 #[.slice (some ⟨w.heap.size, 0, none⟩) 2 2] (w.alloc (.cells #[.slice A n c, .slice A2 n2 c2] 24)) (CntAns v w) := by
  subst hv
  refine (join_two A A2 n c n2 c2 _ _ w ha hb sa sb hc hm hc2 hm2).mono ?_
  rintro e w' ⟨r, A', c', rfl, h1, h2, h3, h4, h5, h6⟩
  refine ⟨r, A', _, c', rfl, h1, ?_, h3, h4⟩
  rw [h1.count]; unfold unionN
  rw [cnt_congr _ _ 200 fun j _ => has_or h2 j]
theorem both_cnt (A A2 : Option Addr) (n c n2 c2 : Nat) (a b : List (Int × Int)) (v : Int) (w : World) (ha : Sees w w.heap.size 2 A n (smps a)) (hb : Sees w w.heap.size 2 A2 n2 (smps b)) (sa : SpL a) (sb : SpL b) (hv : meetN a b = v) :
    Calls Try.prog 11 #[.slice A n c, .slice A2 n2 c2] w (CntAns v w) := by
  subst hv
  refine (both_two A A2 n c n2 c2 _ _ w ha hb sa sb).mono ?_
  rintro e w' ⟨r, A', c', rfl, h1, h2, h3, h4, h5, h6⟩
  refine ⟨r, A', _, c', rfl, h1, ?_, h3, h4⟩
  rw [h1.count]; unfold meetN
  rw [cnt_congr _ _ 200 fun j _ => has_and h2 j]
theorem less_cnt (A A2 : Option Addr) (n c n2 c2 : Nat) (a b : List (Int × Int)) (v : Int) (w : World) (ha : Sees w w.heap.size 2 A n (smps a)) (hb : Sees w w.heap.size 2 A2 n2 (smps b)) (sa : SpL a) (sb : SpL b) (hv : apartN a b = v) :
    Calls Try.prog 12 #[.slice A n c, .slice A2 n2 c2] w (CntAns v w) := by
  subst hv
  refine (less_two A A2 n c n2 c2 _ _ w ha hb sa sb).mono ?_
  rintro e w' ⟨r, A', c', rfl, h1, h2, h3, h4, h5, h6⟩
  refine ⟨r, A', _, c', rfl, h1, ?_, h3, h4⟩
  rw [h1.count]; unfold apartN
  rw [cnt_congr _ _ 200 fun j _ => has_less h2 j]
theorem has_is (A : Option Addr) (n c : Nat) (l : List (Int × Int)) (t : Int) (b : Bool) (B : Nat) (w : World) (hl : SpL l) (hb : hasF l t = b) (h : Sees w B 2 A n (smps l)) (hB : B ≤ w.heap.size) :
    Calls Try.prog 9 #[.slice A n c, .int .i64 t] w fun e w' => e = .returned (.bool b) ∧ Below w.heap.size w w' := by
  subst hb
  have := hl.len
  exact has_any A n c l t B w h hB (by rw [← h.smp_len]; omega)
theorem cnt_none : ∀ k, cntF (fun _ => false) k = 0
  | 0 => rfl
  | k + 1 => by unfold cntF; rw [cnt_none k]; rfl
theorem manyN_nil : manyN [] = 0 := by
  unfold manyN
  rw [cnt_congr _ (fun _ => false) 200 fun j _ => by simp]
  exact cnt_none 200
theorem manyN_le (l : List Int) : manyN l ≤ 200 := cnt_le _ 200
theorem bset_made (w : World) (L : List Int) : BSet (w.alloc (.map #[] 0)) w.heap.size 0 (fun x => decide (x ∈ L.take 0)) (manyN (L.take 0)) := by
  rw [List.take_zero, manyN_nil]
  have h := BSet.made w
  have e : (fun x : Int => decide (x ∈ ([] : List Int))) = fun _ => false := funext fun x => by simp
  rw [e]; exact h
end Go.Proofs.Ytogdollfndpleaa
