/- Two stores side by side; what is picked, by matchers. -/
import Derived.Test.YthbinnbnmckmfaaFill2
namespace Go.Proofs.Ythbinnbnmckmfaa
open Go.ChangeShapes Go.WideShapes Go.ChangeAt Go.RowKit
set_option linter.unusedVariables false
set_option maxRecDepth 100000
structure TwoSto (w0 : World) (g1 : Nat) (v1 : Value) (D1 : List SK) (g2 : Nat) (v2 : Value) (D2 : List SK) (W : World) : Prop where
  a : Sto w0 g1 v1 D1 W
  b : Sto w0 g2 v2 D2 W
  ne : g1 ≠ g2
  nv : ∀ k, v1.ownBlock = some k → v2.ownBlock ≠ some k
section
variable {w0 W W' : World} {g g1 g2 : Nat} {v v1 v2 v' : Value} {D D1 D2 D' : List SK}
theorem Sto.own_lt (h : Sto w0 g v D W) : ∀ k, v.ownBlock = some k → k < W.heap.size := fun k hk => by
  obtain ⟨L, _, hS⟩ := h.ex; exact (hS.rows.lt k hk).2
theorem TwoSto.below (h : TwoSto w0 g1 v1 D1 g2 v2 D2 W) (hb : Below W.heap.size W W') : TwoSto w0 g1 v1 D1 g2 v2 D2 W' := ⟨h.a.below hb, h.b.below hb, h.ne, h.nv⟩
theorem TwoSto.flip (h : TwoSto w0 g1 v1 D1 g2 v2 D2 W) : TwoSto w0 g2 v2 D2 g1 v1 D1 W := ⟨h.b, h.a, Ne.symm h.ne, fun k h1 h2 => h.nv k h2 h1⟩
theorem TwoSto.putB (h : TwoSto w0 g1 v1 D1 g2 v2 D2 W) (hS : Sto w0 g2 v' D' W') (hT : TurnS g2 v2 W W') (hw : Where W v2 v') : TwoSto w0 g1 v1 D1 g2 v' D' W' := by
  refine ⟨h.b.other hT h.a h.ne h.nv (h.a.bel.trans (h.b.turned hT)), hS, h.ne, fun k h1 h2 => ?_⟩
  rcases hw with e | e
  · exact h.nv k h1 (e ▸ h2)
  · have := e k h2; have := h.a.own_lt k h1; omega
theorem TwoSto.putA (h : TwoSto w0 g1 v1 D1 g2 v2 D2 W) (hS : Sto w0 g1 v' D' W') (hT : TurnS g1 v1 W W') (hw : Where W v1 v') : TwoSto w0 g1 v' D' g2 v2 D2 W' := (h.flip.putB hS hT hw).flip
end
theorem pickOne_len (t look : Int) (ms : List Mtc) (x : SK) : (pickOne t look ms x).length ≤ 1 := by
  unfold pickOne; split
  · split <;> simp
  · simp
theorem pickS_len (D : List SK) (t look : Int) (ms : List Mtc) : (pickS D t look ms).length ≤ D.length := by
  induction D with
  | nil => simp [pickS]
  | cons x D ih =>
    have := pickOne_len t look ms x
    simp only [pickS, List.flatMap_cons, List.length_append, List.length_cons] at ih ⊢; omega
theorem pickS_two (D : List SK) (t look : Int) (nm vl : ByteArray) : (pickS D t look [(nm, vl, 1)]).length + (pickS D t look [(nm, vl, 2)]).length = (pickS D t look []).length := by
  induction D with
  | nil => rfl
  | cons x D ih =>
    have h : (pickOne t look [(nm, vl, 1)] x).length + (pickOne t look [(nm, vl, 2)] x).length = (pickOne t look [] x).length := by
      have e1 : allF x.1 [(nm, vl, 1)] = decide (getF x.1 nm = vl) := by simp [allF, holdsF]
      have e2 : allF x.1 [(nm, vl, 2)] = !decide (getF x.1 nm = vl) := by simp [allF, holdsF]
      have e3 : allF x.1 [] = true := rfl
      unfold pickOne
      rw [e1, e2, e3]
      by_cases h1 : getF x.1 nm = vl <;> simp [h1] <;> split <;> rfl
    simp only [pickS, List.flatMap_cons, List.length_append] at ih ⊢; omega
theorem pickS_none {D : List SK} {t look : Int} {nm vl : ByteArray} (h : ∀ x ∈ D, getF x.1 nm ≠ vl) : pickS D t look [(nm, vl, 1)] = [] := by
  unfold pickS
  rw [List.flatMap_eq_nil_iff]
  intro x hx
  have e1 : allF x.1 [(nm, vl, 1)] = false := by simp [allF, holdsF, h x hx]
  unfold pickOne; rw [e1]; rfl
theorem atF_more {ss : List (Int × Int)} {t look more : Int} (h : (atF ss t look).2 = true) (hm : look ≤ more) : (atF ss t more).2 = true := by
  unfold atF at h ⊢
  cases hk : nBeh ss t with
  | zero => rw [hk] at h; cases h
  | succ j =>
    rw [hk] at h
    simp only at h ⊢
    split at h
    · cases h
    · next h1 => rw [if_neg (by omega)]
theorem pickS_more (D : List SK) (t look more : Int) (hm : look ≤ more) : (pickS D t look []).length ≤ (pickS D t more []).length := by
  induction D with
  | nil => simp [pickS]
  | cons x D ih =>
    have h : (pickOne t look [] x).length ≤ (pickOne t more [] x).length := by
      have e3 : allF x.1 [] = true := rfl
      unfold pickOne
      rw [e3]
      simp only [if_true]
      by_cases h1 : (atF x.2 t look).2 = true
      · rw [if_pos h1, if_pos (atF_more h1 hm)]; simp
      · rw [if_neg h1]; simp
    simp only [pickS, List.flatMap_cons, List.length_append] at ih ⊢; omega
theorem fill_sets (k : KStore) : ∀ x ∈ fillF k, ∃ (q : KSet) (i : Nat), x.1 = fSet q i := fun x hx => by
  obtain ⟨h1, _, h3⟩ := fillUp_inv k (min k.qs.length 5)
  obtain ⟨j, hj, e⟩ := h3 _ (h1 x hx)
  have hjq : j < k.qs.length := by omega
  exact ⟨k.qs[j], j, by rw [e]; unfold setOf; rw [dif_pos hjq]⟩
theorem fSet_name (q : KSet) (i : Nat) : getF (fSet q i) ⟨#[110, 97, 109, 101]⟩ = ⟨#[UInt8.ofNat (109 + i % 2)]⟩ := by
  have h : ∀ x ∈ setF q, x.1 ≠ ⟨#[110, 97, 109, 101]⟩ := fun x hx e => by
    obtain ⟨j, hj, e2⟩ := setF_names q x hx
    rw [e2] at e
    match j, hj with
    | 0, _ => exact absurd e (by decide)
    | 1, _ => exact absurd e (by decide)
    | 2, _ => exact absurd e (by decide)
  unfold getF fSet
  rw [List.find?_append]
  have h2 : (setF q).find? (fun x => decide (x.1 = ⟨#[110, 97, 109, 101]⟩)) = none := List.find?_eq_none.2 fun x hx => by simpa using h x hx
  rw [h2]
  simp [fName]
/-- The n'th of many sets. -/
def lset (i : Nat) : List Lbl := [(⟨#[110]⟩, ⟨#[UInt8.ofNat (65 + i)]⟩)]
theorem lset_right (i : Nat) : rightS (lset i) = true := by
  refine rightS_of (by simp [lset]) (fun x hx => ?_) (List.pairwise_singleton _ _)
  rw [show lset i = [(⟨#[110]⟩, ⟨#[UInt8.ofNat (65 + i)]⟩)] from rfl, List.mem_singleton] at hx
  subst hx
  have hw : wordF (⟨#[110]⟩ : ByteArray) = true := by decide
  unfold lblOk
  simp only [hw, Bool.true_and]
  simp [ByteArray.size]
theorem lset_inj {i j : Nat} (hi : i < 35) (hj : j < 35) (h : lset i = lset j) : i = j := by
  unfold lset at h
  simp only [List.cons.injEq, Prod.mk.injEq, ByteArray.mk.injEq, and_true, true_and] at h
  have h2 : #[UInt8.ofNat (65 + i)] = #[UInt8.ofNat (65 + j)] := h
  have h3 : UInt8.ofNat (65 + i) = UInt8.ofNat (65 + j) := by
    have := congrArg (fun a : Array UInt8 => a[0]!) h2
    simpa using this
  have h4 := congrArg UInt8.toNat h3
  rw [UInt8.toNat_ofNat', UInt8.toNat_ofNat'] at h4
  omega
/-- So many of them are there. -/
def LimD (D : List SK) (i : Nat) : Prop := D.length = min i 32 ∧ ∀ x ∈ D, ∃ j, j < i ∧ x.1 = lset j
theorem LimD.put {D : List SK} {i : Nat} (hD : DOk D) (h : LimD D i) (hi : i < 35) (z : Int) : putE D (lset i) ((i : Int), z) = (if 32 ≤ i then 8 else 0) ∧ LimD (putS D (lset i) ((i : Int), z)) (i + 1) := by
  have hB : placeB D (printL (lset i)) = false := placeB_no hD (lset_right i) fun x hx e => by
    obtain ⟨j, hj, e2⟩ := h.2 x hx
    have := lset_inj (by omega) hi (e2.symm.trans e); omega
  have hE : putE D (lset i) ((i : Int), z) = (if 32 ≤ i then 8 else 0) := by
    unfold putE
    rw [if_neg (by rintro (h1 | h1 | h1); · rw [lset_right] at h1; cases h1
                   · simp only at h1; omega
                   · simp only at h1; omega), hB, if_neg (by decide), h.1]
    by_cases h32 : 32 ≤ i
    · rw [if_pos h32, if_pos (by omega)]
    · rw [if_neg h32, if_neg (by omega)]
  refine ⟨hE, ?_, fun x hx => ?_⟩
  · unfold putS
    rw [hE]
    by_cases h32 : 32 ≤ i
    · rw [if_pos h32, if_neg (by decide), h.1]; omega
    · rw [if_neg h32, if_pos rfl]
      unfold putD
      rw [hB, if_neg (by decide)]
      have := placeN_le D (printL (lset i))
      have := h.1
      rw [List.length_append, List.length_take, List.length_cons, List.length_drop]; omega
  · rcases putS_sets.1 x hx with e | ⟨y, hy, e⟩
    · exact ⟨i, by omega, e⟩
    · obtain ⟨j, hj, e2⟩ := h.2 y hy
      exact ⟨j, by omega, e.trans e2⟩
end Go.Proofs.Ythbinnbnmckmfaa
