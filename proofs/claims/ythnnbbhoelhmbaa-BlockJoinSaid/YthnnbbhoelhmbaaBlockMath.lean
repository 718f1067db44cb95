/- Numbers as bytes: the plain mathematics of chapter 5. No program in it. -/
import Derived.Test.YthnnbbhoelhmbaaNumMath
namespace Go.Proofs.Ythnnbbhoelhmbaa
open Go.RowKit
set_option linter.unusedVariables false
/-- Twice n, or -1 less twice n. -/
def zig (n : Int) : Nat := if 0 ≤ n then (2 * n).toNat else (-1 - 2 * n).toNat
def zag (u : Nat) : Int := if u % 2 = 0 then (u / 2 : Nat) else -1 - ((u / 2 : Nat) : Int)
theorem zag_zig (n : Int) : zag (zig n) = n := by unfold zag zig; split <;> split <;> omega
theorem zig_zag (u : Nat) : zig (zag u) = u := by unfold zag zig; split <;> split <;> omega
theorem zig_lt {n : Int} (h : I64 n) : zig n < 18446744073709551616 := by unfold I64 at h; unfold zig; split <;> omega
theorem zag_in {u : Nat} (h : u < 18446744073709551616) : I64 (zag u) := by unfold I64 zag; split <;> omega
theorem zig_inj {a b : Int} (h : zig a = zig b) : a = b := by rw [← zag_zig a, h, zag_zig]
/-- u's bytes, k + 1 at most. -/
def encF : Nat → Nat → List Int
  | 0, u => [(u : Int)]
  | k + 1, u => if 127 < u then ((u % 128 + 128 : Nat) : Int) :: encF k (u / 128) else [(u : Int)]
def enc (u : Nat) : List Int := encF 9 u
def num (n : Int) : List Int := enc (zig n)
theorem encF_pos (k u : Nat) : 1 ≤ (encF k u).length := by cases k with | zero => simp [encF] | succ k => unfold encF; split <;> simp
theorem encF_len (k u : Nat) : (encF k u).length ≤ k + 1 := by
  induction k generalizing u with
  | zero => simp [encF]
  | succ k ih => unfold encF; split; · have := ih (u / 128); simp; omega
                 · simp
theorem num_pos (n : Int) : 1 ≤ (num n).length := encF_pos _ _
theorem num_len (n : Int) : (num n).length ≤ 10 := encF_len _ _
theorem encF_byte (k u : Nat) (h : u < 128 ^ (k + 1) * 2 ∧ u < 256 * 128 ^ k) : ∀ z ∈ encF k u, 0 ≤ z ∧ z < 256 := by
  induction k generalizing u with
  | zero => intro z hz; simp [encF] at hz; subst hz; omega
  | succ k ih =>
    intro z hz
    unfold encF at hz
    split at hz
    · rcases List.mem_cons.1 hz with rfl | hz
      · omega
      · refine ih (u / 128) ⟨?_, ?_⟩ z hz
        · have := h.1; rw [Nat.pow_succ] at this; rw [Nat.div_lt_iff_lt_mul (by omega)]; rw [Nat.pow_succ] at this ⊢; omega
        · have := h.2; rw [Nat.pow_succ] at this; rw [Nat.div_lt_iff_lt_mul (by omega)]; omega
    · simp at hz; subst hz; omega
theorem enc_byte {u : Nat} (h : u < 18446744073709551616) : ∀ z ∈ enc u, 0 ≤ z ∧ z < 256 := by
  refine encF_byte 9 u ⟨?_, ?_⟩
  · have : (128 : Nat) ^ (9 + 1) * 2 = 2361183241434822606848 := by decide
    omega
  · have : 256 * (128 : Nat) ^ 9 = 2361183241434822606848 := by decide
    omega
theorem num_byte {n : Int} (h : I64 n) : ∀ z ∈ num n, 0 ≤ z ∧ z < 256 := enc_byte (zig_lt h)
/-- The number that l begins with, its bytes from place i on, u what came ahead of them; and how many bytes it has. -/
def nxt (i u : Nat) : List Int → Option (Nat × Nat)
  | [] => none
  | c :: cs =>
    if 10 ≤ i then none
    else if i = 9 ∧ 1 < c then none
    else if 128 ≤ c then nxt (i + 1) (u + (c.toNat % 128) * 128 ^ i) cs
    else if 0 < i ∧ c = 0 then none
    else some (u + (c.toNat % 128) * 128 ^ i, i + 1)
def nextF (l : List Int) : Option (Nat × Nat) := nxt 0 0 l
theorem nxt_enc (k i u v : Nat) (rest : List Int) (hi : i + k = 9) (hv : v < 2 * 128 ^ k) (h0 : 0 < i → 0 < v) :
    nxt i u (encF k v ++ rest) = some (u + v * 128 ^ i, i + (encF k v).length) := by
  induction k generalizing i u v with
  | zero =>
    simp only [Nat.pow_zero] at hv
    have : v < 2 := by omega
    simp only [encF, List.cons_append, List.nil_append, nxt, List.length_singleton]
    rw [if_neg (by omega), if_neg (by omega), if_neg (by omega), if_neg (by omega)]
    have : ((v : Int).toNat % 128) = v := by omega
    rw [this]
  | succ k ih =>
    unfold encF
    split
    · rename_i hbig
      simp only [List.cons_append, nxt]
      rw [if_neg (by omega), if_neg (by omega), if_pos (by omega)]
      have e : ((((v % 128 + 128 : Nat) : Int)).toNat % 128) = v % 128 := by omega
      rw [e, ih (i + 1) _ (v / 128) (by omega) ?_ (by omega)]
      · have h9 : v % 128 * 128 ^ i + v / 128 * 128 ^ (i + 1) = v * 128 ^ i := by
          rw [Nat.pow_succ, ← Nat.mul_assoc, Nat.mul_right_comm, ← Nat.add_mul, Nat.mod_add_div' v 128]
        rw [Nat.add_assoc, h9, List.length_cons]
        congr 2; omega
      · rw [Nat.div_lt_iff_lt_mul (by omega)]; rw [Nat.pow_succ] at hv; omega
    · rename_i hsmall
      simp only [List.cons_append, List.nil_append, nxt, List.length_singleton]
      have hv0 : 0 < i → v ≠ 0 := fun h => by have := h0 h; omega
      rw [if_neg (by omega), if_neg (by omega), if_neg (by omega), if_neg (by rintro ⟨a, b⟩; exact hv0 a (by omega))]
      have : ((v : Int).toNat % 128) = v := by omega
      rw [this]
theorem next_enc {u : Nat} (h : u < 18446744073709551616) (rest : List Int) : nextF (enc u ++ rest) = some (u, (enc u).length) := by
  unfold nextF enc
  rw [nxt_enc 9 0 0 u rest rfl (by have : 2 * (128 : Nat) ^ 9 = 18446744073709551616 := by decide
                                   omega) (by omega)]
  simp
theorem next_num {n : Int} (h : I64 n) (rest : List Int) : nextF (num n ++ rest) = some (zig n, (num n).length) := next_enc (zig_lt h) rest
/-- Short of its last byte it is none. -/
theorem nxt_short (k i u v m : Nat) (hi : i + k = 9) (hm : m < (encF k v).length) : nxt i u ((encF k v).take m) = none := by
  induction k generalizing i u v m with
  | zero => simp only [encF, List.length_singleton] at hm; obtain rfl : m = 0 := by omega
            rfl
  | succ k ih =>
    cases m with
    | zero => rfl
    | succ m =>
      unfold encF at hm ⊢
      split at hm
      · rename_i hbig
        rw [if_pos hbig]
        simp only [List.take_succ_cons, nxt]
        rw [if_neg (by omega), if_neg (by omega), if_pos (by omega)]
        exact ih _ _ _ m (by omega) (by simp at hm; omega)
      · simp at hm
theorem next_short {n : Int} {m : Nat} (hm : m < (num n).length) : nextF ((num n).take m) = none := nxt_short 9 0 0 _ m rfl hm
theorem nxt_used {i u : Nat} {l : List Int} {v k : Nat} (h : nxt i u l = some (v, k)) : i < k ∧ k ≤ 10 ∧ k ≤ i + l.length := by
  induction l generalizing i u with
  | nil => simp [nxt] at h
  | cons c cs ih =>
    simp only [nxt] at h
    split at h
    · cases h
    · split at h
      · cases h
      · split at h
        · have := ih h; simp; omega
        · split at h
          · cases h
          · injection h with h; injection h with h1 h2; subst h2; simp; omega
theorem next_used {l : List Int} {v k : Nat} (h : nextF l = some (v, k)) : 1 ≤ k ∧ k ≤ 10 ∧ k ≤ l.length := by
  have := nxt_used h; omega
theorem pow128 (i : Nat) (h : i ≤ 8) : (128 : Nat) ^ i ≤ 72057594037927936 ∧ (128 : Nat) ^ (i + 1) = 128 * 128 ^ i := by
  refine ⟨?_, by rw [Nat.pow_succ, Nat.mul_comm]⟩
  have := Nat.pow_le_pow_right (n := 128) (by omega) h
  have e : (128 : Nat) ^ 8 = 72057594037927936 := by decide
  omega
theorem nxt_lt {i u : Nat} {l : List Int} {v k : Nat} (h : nxt i u l = some (v, k)) (hu : u < 128 ^ i) : v < 18446744073709551616 := by
  induction l generalizing i u with
  | nil => simp [nxt] at h
  | cons c cs ih =>
    simp only [nxt] at h
    split at h
    · cases h
    · split at h
      · cases h
      · have hc : c.toNat % 128 < 128 := Nat.mod_lt _ (by omega)
        have hm : u + c.toNat % 128 * 128 ^ i < 128 ^ (i + 1) := by
          rw [Nat.pow_succ]
          have : c.toNat % 128 * 128 ^ i ≤ 127 * 128 ^ i := Nat.mul_le_mul_right _ (by omega)
          omega
        split at h
        · exact ih h hm
        · split at h
          · cases h
          · injection h with h; injection h with h1 h2; subst h1
            by_cases h9 : i = 9
            · subst h9
              have e : (128 : Nat) ^ 9 = 9223372036854775808 := by decide
              rw [e] at hu ⊢
              have : c.toNat % 128 ≤ 1 := by omega
              omega
            · have := Nat.pow_le_pow_right (n := 128) (by omega) (show i + 1 ≤ 9 by omega)
              have e : (128 : Nat) ^ 9 = 9223372036854775808 := by decide
              omega
theorem next_lt {l : List Int} {v k : Nat} (h : nextF l = some (v, k)) : v < 18446744073709551616 := nxt_lt h (by simp)
theorem nextF_nil : nextF [] = none := rfl
/-- May a series hold l? -/
def heldF : Int → List (Int × Int) → Bool
  | _, [] => true
  | a, x :: l => if x.1 ≤ a ∨ 1099511627776 < x.1 then false else heldF x.1 l
def held (l : List (Int × Int)) : Bool := decide (l.length ≤ 200) && heldF (-1) l
/-- The bytes of l behind a sample at (t, v), so far behind the one ahead of it. -/
def bodyF (t v gap : Int) : List (Int × Int) → List Int
  | [] => []
  | x :: l => num (wrap64 (wrap64 (x.1 - t) - gap)) ++ num (wrap64 (x.2 - v)) ++ bodyF x.1 x.2 (wrap64 (gap + wrap64 (wrap64 (x.1 - t) - gap))) l
def putB (l : List (Int × Int)) : List Int := num l.length ++ bodyF 0 0 0 l
def putF (l : List (Int × Int)) : List Int := if held l then putB l else []
/-- n samples out of bytes. -/
def getB (t v gap : Int) : Nat → List Int → Option (List (Int × Int))
  | 0, _ => some []
  | n + 1, l =>
    match nextF l with
    | none => none
    | some (a, i) => match nextF (l.drop i) with
      | none => none
      | some (b, j) =>
        match getB (wrap64 (t + wrap64 (gap + zag a))) (wrap64 (v + zag b)) (wrap64 (gap + zag a)) n (l.drop (i + j)) with
        | none => none
        | some r => some ((wrap64 (t + wrap64 (gap + zag a)), wrap64 (v + zag b)) :: r)
def getF (l : List Int) : Option (List (Int × Int)) :=
  match nextF l with
  | none => none
  | some (c, i) =>
    if zag c < 0 ∨ 200 < zag c then none else
    match getB 0 0 0 (zag c).toNat (l.drop i) with
    | none => none
    | some r => if putF r = l then some r else none
theorem wrap_back {a b : Int} (h : I64 b) : wrap64 (a + wrap64 (b - a)) = b := by unfold I64 at h; unfold wrap64; omega
theorem getB_body (t v gap : Int) (l : List (Int × Int)) (rest : List Int) (hl : ∀ x ∈ l, I64 x.1 ∧ I64 x.2) (hg : I64 gap) : getB t v gap l.length (bodyF t v gap l ++ rest) = some l := by
  induction l generalizing t v gap with
  | nil => rfl
  | cons x l ih =>
    obtain ⟨h1, h2⟩ := hl x List.mem_cons_self
    simp only [List.length_cons, getB, bodyF]
    rw [List.append_assoc, List.append_assoc, next_num (I64_wrap _)]
    simp only [List.drop_left]
    rw [next_num (I64_wrap _)]
    simp only [zag_zig]
    rw [← List.drop_drop, List.drop_left, List.drop_left]
    have e1 : wrap64 (gap + wrap64 (wrap64 (x.1 - t) - gap)) = wrap64 (x.1 - t) := wrap_back (I64_wrap _)
    rw [e1, wrap_back h1, wrap_back h2, ih x.1 x.2 _ (fun y hy => hl y (List.mem_cons_of_mem _ hy)) (I64_wrap _)]
theorem getF_put {l : List (Int × Int)} (h : held l = true) (hl : ∀ x ∈ l, I64 x.1 ∧ I64 x.2) : getF (putF l) = some l := by
  have hn : l.length ≤ 200 := by unfold held at h; simp at h; exact h.1
  have hp : putF l = putB l := by unfold putF; rw [if_pos h]
  unfold getF
  rw [hp]
  unfold putB
  rw [next_num (by unfold I64; omega)]
  simp only [zag_zig, List.drop_left]
  rw [if_neg (by omega), Int.toNat_natCast]
  have := getB_body 0 0 0 l [] hl (by unfold I64; omega)
  rw [List.append_nil] at this
  rw [this]
  simp only
  rw [hp]; unfold putB; rw [if_pos rfl]
theorem getF_only {b : List Int} {l : List (Int × Int)} (h : getF b = some l) : putF l = b := by
  unfold getF at h
  split at h
  · cases h
  · split at h
    · cases h
    · split at h
      · cases h
      · split at h
        · injection h with h; subst h; assumption
        · cases h
theorem putF_inj {l m : List (Int × Int)} (h : held l = true) (h2 : held m = true) (hl : ∀ x ∈ l, I64 x.1 ∧ I64 x.2) (hm : ∀ x ∈ m, I64 x.1 ∧ I64 x.2) (he : putF l = putF m) : l = m := by
  have := getF_put h hl
  rw [he, getF_put h2 hm] at this
  injection this with this; exact this.symm
theorem putF_nil_none : getF [] = none := rfl
end Go.Proofs.Ythnnbbhoelhmbaa
