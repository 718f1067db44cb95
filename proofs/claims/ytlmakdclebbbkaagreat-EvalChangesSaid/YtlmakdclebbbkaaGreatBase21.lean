/- Texts, merged in one. -/
import Derived.Test.YtlmakdclebbbkaaGreatBase13
import Derived.StillTail
namespace Go.Proofs.YtlmakdclebbbkaaGreat
open Go Go.RowKit
set_option linter.unusedVariables false
section
variable {P : Program} {ops : Array Oper} {Q : Exit → Act → World → Prop} {R : World → World → Prop} {G : World → Prop} {V : Nat → Value → World → Prop} {a0 : Act}
theorem wpAny_more {md : Region.Mode} : ∀ (fuel : Nat) (listed : Array Bool) (a : Act) (w : World), wpAny P md ops Q fuel listed a w → wpAny P md ops Q (fuel + 1) listed a w
  | 0, listed, a, w, h => ⟨fun _ => h.2, fun i hi => by rw [h.1] at hi; cases hi⟩
  | fuel + 1, listed, a, w, h => ⟨h.1, fun i hi => wpOp_mono (fun a' w' h' => wpAny_more fuel _ a' w' h') (h.2 i hi)⟩
theorem wpAny_le {md : Region.Mode} {m n : Nat} {listed : Array Bool} {a : Act} {w : World} (h : wpAny P md ops Q m listed a w) (hmn : m ≤ n) : wpAny P md ops Q n listed a w := by
  obtain ⟨k, rfl⟩ : ∃ k, n = m + k := ⟨n - m, by omega⟩
  clear hmn
  induction k with
  | zero => exact h
  | succ k ih => exact wpAny_more _ _ _ _ ih
/-- The first n of m are done. -/
def headN (n m : Nat) : Array Bool := (List.replicate n true ++ List.replicate (m - n) false).toArray
theorem headN_eq {n m : Nat} {listed : Array Bool} (hn : n ≤ m) (hs : listed.size = m) (h1 : ∀ i, i < n → listed.getD i true = true) (h2 : ∀ i, n ≤ i → i < m → listed.getD i true = false) : listed = headN n m := by
  refine Array.ext (by rw [hs]; simp [headN]; omega) fun i hi hi2 => ?_
  by_cases h : i < n
  · have := h1 i h
    simp [hi] at this
    rw [this]
    simp [headN, h]
  · have := h2 i (by omega) (by omega)
    simp [hi] at this
    rw [this]
    simp [headN, List.getElem_append, h]
def leftH (n : Nat) (listed : Array Bool) : Nat := ((List.range n).filter fun i => !listed.getD i true).length
theorem leftH_set {n : Nat} {listed : Array Bool} {i : Nat} (hin : i < n) (hi : listed.getD i true = false) : leftH n (listed.setIfInBounds i true) < leftH n listed := by
  have hlt : i < listed.size := by
    rcases Nat.lt_or_ge i listed.size with h | h
    · exact h
    · simp [Array.getElem?_eq_none h] at hi
  refine filter_less (fun x hx hq => ?_) (List.mem_range.2 hin) (by simp [hi]) (by simp [hlt])
  by_cases h : i = x
  · subst h; simp [hlt] at hq
  · rw [getD_set_ne true h] at hq; exact hq
theorem wpAny_facts_tail (n : Nat) (hback : backB 0 ops.toList = true) (hr0 : ∀ w, R w w) (ht : ∀ a b c, R a b → R b c → R a c) (hb : apartB a0.tmps.size ops.toList = true) (hs : Region.sinkB .any ops n = true) (hc : Region.chainB .any ops n = true) (hn : n < ops.size)
    (hseq : Region.seqB .any ops (ops.size - n) n (headN n ops.size) = true) (hall : AllOps P ops Q R G V a0 0 (ops.toList.take n))
    (hend : ∀ a w, FrameOk ops a0 a → (∀ k, (∀ j, j < n → slotOf ops j ≠ some k) → a.tmps.getD k undef = a0.tmps.getD k undef) → Hold R G w → (∀ i, i < n → Hold R (V i (slotV ops a i)) w) → wpList P ops Q (ops.toList.drop n) a w) :
    ∀ (fuel : Nat) (listed : Array Bool) (a : Act) (w : World), HeadInv .any ops n listed → leftH n listed + (ops.size - n) ≤ fuel → RInv P ops R G V a0 listed a w → wpAny P .any ops Q fuel listed a w := by
  intro fuel
  induction fuel with
  | zero => intro listed a w inv hl hI; omega
  | succ fuel ih =>
    intro listed a w inv hl hI
    by_cases h0 : ∃ i, i < n ∧ listed.getD i true = false
    · obtain ⟨i0, hi0, hu0⟩ := h0
      have hready : ∀ i ∈ Region.ready .any ops listed, i < n := fun i hi => by
        rcases Nat.lt_or_ge i n with h | h
        · exact h
        · exact absurd hi (tail_waits hs hc hn inv (n - i0) i0 rfl hi0 hu0 i h)
      have hne : Region.ready .any ops listed ≠ [] := fun hr => by
        have key : ∀ m, m ≤ n → ∀ i, i < m → listed.getD i true = true := by
          intro m
          induction m with
          | zero => intro _ i hi; omega
          | succ m ihm =>
            intro hm i hi
            by_cases him : i < m
            · exact ihm (by omega) i him
            · have hie : i = m := by omega
              subst hie
              cases hli : listed.getD i true with
              | true => rfl
              | false =>
                exfalso
                have hio : i < ops.size := by omega
                have : i ∈ Region.ready .any ops listed := mem_ready.2 ⟨hli, ops[i], Array.getElem?_eq_getElem hio, fun e he hbb => by
                  have hb3 := backB_at hback i ops[i] (by simp [hio]) e (by simpa using he)
                  have h3 := ihm (by omega) e.on (by omega)
                  have hlt : e.on < listed.size := by rw [inv.size]; omega
                  simp [hlt] at h3 ⊢
                  exact h3⟩
                rw [hr] at this; cases this
        rw [key n (Nat.le_refl _) i0 hi0] at hu0
        cases hu0
      refine ⟨fun h => absurd h hne, fun i hi => ?_⟩
      have hin := hready i hi
      obtain ⟨h1, o, ho, hdone⟩ := mem_ready.1 hi
      have hlt : i < ops.size := (Array.getElem?_eq_some_iff.1 ho).1
      have hok : OpOk P ops Q R G V a0 i o := by
        have := allOps_at hall i o (by rw [List.getElem?_take, if_pos hin]; simpa using ho)
        rwa [Nat.zero_add] at this
      have hdst : o.dst = slotOf ops i := by unfold slotOf; rw [ho]; rfl
      have hlt2 : i < listed.size := by rw [inv.size]; exact hlt
      have hfa : FrameAt ops a0 a i := ⟨hI.fr, fun k hk => hI.early k fun j hj => by
        have hj2 := hj
        unfold slotOf at hj2
        cases hoj : ops[j]? with
        | none => rw [hoj] at hj2; cases hj2
        | some oj =>
          rw [hoj] at hj2
          obtain ⟨e, he, heq, hbb⟩ := hk j oj hoj hj2
          cases hlj : listed.getD j false with
          | false => rfl
          | true =>
            have h5 := hI.closed j oj hoj hlj e he hbb
            rw [heq] at h5
            simp [hlt2] at h1 h5
            rw [h5] at h1; cases h1⟩
      obtain ⟨hw, hno⟩ := hok a w hfa hI.g (deps_of hI.facts _ fun e he hbb => hdone e (by simpa using he) hbb)
      have go : ∀ v w', R w w' → Hold R (V i (match slotOf ops i with | some _ => v | none => undef)) w' → wpAny P .any ops Q fuel (listed.setIfInBounds i true) (a.put (slotOf ops i) v) w' := fun v w' hrw hv => by
        refine ih _ _ _ (inv.set hi hin) (by have := leftH_set hin h1; omega) ⟨hI.fr.put hb i v, fun k hk => ?_, fun j oj hoj hlj e he hbb => ?_, hI.g.trans ht hrw, fun j hj => ?_⟩
        · have hne : slotOf ops i ≠ some k := fun h => by have := hk i h; simp [hlt2] at this
          have h6 := hI.early k fun j hj => by
            have h7 := hk j hj
            by_cases hij : i = j
            · subst hij; simp [hlt2] at h7
            · rwa [getD_set_ne false hij] at h7
          rw [← h6]
          cases hsl : slotOf ops i with
          | none => rfl
          | some d =>
            have hdk : d ≠ k := fun h => hne (by rw [hsl, h])
            simp [Act.put, Array.getElem?_setIfInBounds_ne hdk]
        · by_cases hij : i = j
          · subst hij
            rw [ho] at hoj; injection hoj with hoj; subst hoj
            have h8 := hdone e (by simpa using he) hbb
            by_cases hie : i = e.on
            · rw [← hie]; simp [hlt2]
            · rw [getD_set_ne false hie]; exact h8
          · rw [getD_set_ne false hij] at hlj
            have h8 := hI.closed j oj hoj hlj e he hbb
            by_cases hie : i = e.on
            · rw [← hie]; simp [hlt2]
            · rw [getD_set_ne false hie]; exact h8
        · by_cases hij : i = j
          · subst hij
            have e : slotV ops (a.put (slotOf ops i) v) i = match slotOf ops i with | some _ => v | none => undef := by
              unfold slotV
              cases hsl : slotOf ops i with
              | none => rfl
              | some d =>
                have hd := slotOf_lt hb hsl
                rw [← hI.fr.size] at hd
                simp [Act.put, hd]
            rw [e]
            exact hv
          · rw [slotV_put_other hb hij]
            refine (hI.facts j ?_).trans ht hrw
            rw [getD_set_ne false hij] at hj
            exact hj
      unfold wpOp
      rw [ho]
      simp only
      split
      · rename_i hwant
        refine .inl (Oper.wp_mono (fun a' w' h => ?_) (hw hwant))
        obtain ⟨hrw, v, rfl, hv⟩ := h
        rw [hdst] at hv ⊢
        exact go v w' hrw hv
      · rename_i hwant
        rw [hdst]
        exact go undef w (hr0 w) (by have := hno (by simpa using hwant); cases slotOf ops i <;> exact this)
    · have hall1 : ∀ i, i < n → listed.getD i true = true := fun i hi => by
        cases h : listed.getD i true with
        | true => rfl
        | false => exact absurd ⟨i, hi, h⟩ h0
      have hcan := headN_eq (Nat.le_of_lt hn) inv.size hall1 (fun i h1 h2 => inv.tail i h1 h2)
      have hfalse : ∀ i, i < n → listed.getD i false = true := fun i hi => by
        have h := hall1 i hi
        have hlt : i < listed.size := by rw [inv.size]; omega
        simp [hlt] at h ⊢
        exact h
      have hL := hend a w hI.fr (fun k hk => hI.early k fun j hj => by
        rcases Nat.lt_or_ge j n with h | h
        · exact absurd hj (hk j h)
        · rcases Nat.lt_or_ge j ops.size with h2 | h2
          · exact getD_both (inv.tail j h h2)
          · simp [show listed.size ≤ j by rw [inv.size]; exact h2]) hI.g (fun i hi => hI.facts i (hfalse i hi))
      have hdl : (ops.toList.drop n).length = ops.size - n := by simp
      have := wpAny_of_seq (md := .any) (Q' := Q) (ops.toList.drop n) n listed a w (fun j => by simp [List.getElem?_drop]) (by rw [hdl, hcan]; exact hseq) hL
      rw [hdl] at this
      exact wpAny_le this (by omega)
theorem wp_region_facts_tail {id : Nat} {w : World} (n : Nat) (hm : P.follows .mixedOrders = true) (hr0 : ∀ w, R w w) (ht : ∀ a b c, R a b → R b c → R a c) (hb : apartB a0.tmps.size ops.toList = true) (hback : backB 0 ops.toList = true)
    (hs : Region.sinkB .any ops n = true) (hc : Region.chainB .any ops n = true) (hn : n < ops.size) (hseq : Region.seqB .any ops (ops.size - n) n (headN n ops.size) = true)
    (hG : Hold R G { w with drawn := w.drawn + 1 }) (hall : AllOps P ops Q R G V a0 0 (ops.toList.take n))
    (hend : ∀ vs w', Hold R G w' → AllV R V vs w' 0 (ops.toList.take n) → wpList P ops Q (ops.toList.drop n) (putAll vs 0 (ops.toList.take n) a0) w') : (Code.region id ops true).wp P Q a0 w := by
  have hrep : ∀ j, (Array.replicate ops.size false).getD j false = false := fun j => by by_cases h : j < ops.size <;> simp [h]
  refine wp_region_any hm (wpAny_facts_tail n hback hr0 ht hb hs hc hn hseq hall (fun a w' hfr hea hg hf => ?_) ops.size _ a0 _ ⟨by simp, fun j oj _ hj => ?_, fun t _ h2 => getD_in (by simpa using h2) (hrep t)⟩ (by
    have h1 : leftH n (Array.replicate ops.size false) ≤ n := by unfold leftH; exact Nat.le_trans (List.length_filter_le _ _) (by simp)
    omega) ⟨⟨rfl, rfl, fun _ _ => rfl⟩, fun _ _ => rfl, fun j o _ hj => ?_, hG, fun i hi => ?_⟩)
  · have htl : (ops.toList.take n).length = n := by simp; omega
    have hget : ∀ i o, (ops.toList.take n)[i]? = some o → ops[i]? = some o ∧ i < n := fun i o h => by
      rw [List.getElem?_take] at h
      split at h
      · rename_i h2; exact ⟨by simpa using h, h2⟩
      · cases h
    have h1 := hend (slotV ops a) w' hg (allV_of _ 0 fun i hi => by rw [Nat.zero_add]; exact hf i (by rw [htl] at hi; exact hi))
    have h2 : putAll (slotV ops a) 0 (ops.toList.take n) a0 = a := by
      rw [putAll_congr (ops.toList.take n) 0 a0 a hfr.defers.symm hfr.size.symm fun t hno => (hea t fun j hj hsl => ?_).symm]
      · refine putAll_same _ 0 fun i o ho => ?_
        obtain ⟨ho2, hin⟩ := hget i o ho
        rw [Nat.zero_add]
        have hdst : o.dst = slotOf ops i := by unfold slotOf; rw [ho2]; rfl
        rw [hdst]
        unfold slotV
        cases hsl : slotOf ops i with
        | none => rfl
        | some d =>
          refine act_ext rfl (by simp [Act.put]) fun k => ?_
          by_cases he : d = k
          · subst he
            have hd := slotOf_lt hb hsl
            rw [← hfr.size] at hd
            simp [Act.put, hd]
          · simp [Act.put, Array.getElem?_setIfInBounds_ne he]
      · unfold slotOf at hsl
        cases ho : ops[j]? with
        | none => rw [ho] at hsl; cases hsl
        | some o =>
          rw [ho] at hsl
          have hmem : o ∈ ops.toList.take n := List.mem_of_getElem? (i := j) (by rw [List.getElem?_take, if_pos hj]; simpa using ho)
          exact hno o hmem hsl
    rwa [h2] at h1
  · rw [hrep] at hj; cases hj
  · rw [hrep] at hj; cases hj
  · rw [hrep] at hi; cases hi
end
end Go.Proofs.YtlmakdclebbbkaaGreat
