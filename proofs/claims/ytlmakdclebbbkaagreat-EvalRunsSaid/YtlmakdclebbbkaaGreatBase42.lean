/- Texts, merged in one. -/
import Derived.Test.YtlmakdclebbbkaaGreatBase41
import Derived.Test.YtlmakdclebbbkaaGreatBase21
import Derived.Test.YtlmakdclebbbkaaGreatBase33
import Derived.Test.YtlmakdclebbbkaaGreatBase35
import Derived.Test.YtlmakdclebbbkaaGreatBase32
import Derived.Test.YtlmakdclebbbkaaGreatBase6
import Derived.Deep.RegionHeld3
import Derived.Test.YtlmakdclebbbkaaGreatBase2
import Derived.Test.YtlmakdclebbbkaaGreatBase3
import Derived.Test.YtlmakdclebbbkaaGreatShelf
import Derived.Test.YtlmakdclebbbkaaGreatBase
import Derived.Test.YtlmakdclebbbkaaGreatBase4
import Derived.Laws.IdiomStrings
import Derived.Laws.BytesArg
import Derived.Deep.CutBlock
import Derived.Deep.DeepCutAuto
import Derived.Test.YtlmakdclebbbkaaGreatBase31
import Derived.Lib.ItoaLen
import Derived.Test.YtlmakdclebbbkaaGreatBase5
import Derived.Deep.RegionLaw
import Derived.Deep.QuietTactic
import Derived.BigQuiet
import Derived.Lib.PathFns
import Derived.Lib.IndexLaws
import Derived.Test.YtlmakdclebbbkaaGreatBase13
namespace Go.Proofs.YtlmakdclebbbkaaGreat
open Go Go.RowKit
set_option linter.unusedVariables false
def updV (vs : Nat → Value) (i : Nat) (v : Value) (j : Nat) : Value := if j = i then v else vs j
theorem updV_self (vs : Nat → Value) (i : Nat) (v : Value) : updV vs i v i = v := by unfold updV; rw [if_pos rfl]
theorem updV_other (vs : Nat → Value) {i j : Nat} (v : Value) (h : j ≠ i) : updV vs i v j = vs j := by unfold updV; rw [if_neg h]
theorem upd_self (L : Nat → Bool) (i : Nat) : upd L i i = true := by unfold upd; rw [if_pos rfl]
theorem upd_other (L : Nat → Bool) {i j : Nat} (h : j ≠ i) : upd L i j = L j := by unfold upd; rw [if_neg h]
def PostI (ops : Array Oper) (I : (Nat → Bool) → (Nat → Value) → World → Prop) (L : Nat → Bool) (i : Nat) (o : Oper) (a : Act) (a' : Act) (w' : World) : Prop := ∃ v, a' = a.put o.dst v ∧ I (upd L i) (updV (slotV ops a) i (match o.dst with | some _ => v | none => undef)) w'
def OkI (P : Program) (ops : Array Oper) (Q : Exit → Act → World → Prop) (I : (Nat → Bool) → (Nat → Value) → World → Prop) (a0 : Act) (i : Nat) (o : Oper) : Prop :=
  ∀ a w L, FrameAt ops a0 a i → I L (slotV ops a) w → Since ops L i →
    (Region.wanted o (yielded ops a.tmps) = true → o.wp P a w (PostI ops I L i o a) Q) ∧ (Region.wanted o (yielded ops a.tmps) = false → I (upd L i) (updV (slotV ops a) i undef) w)
def AllI (P : Program) (ops : Array Oper) (Q : Exit → Act → World → Prop) (I : (Nat → Bool) → (Nat → Value) → World → Prop) (a0 : Act) : Nat → List Oper → Prop
  | _, [] => True
  | i, o :: l => OkI P ops Q I a0 i o ∧ AllI P ops Q I a0 (i + 1) l
section
variable {P : Program} {ops : Array Oper} {Q : Exit → Act → World → Prop} {I : (Nat → Bool) → (Nat → Value) → World → Prop} {a0 : Act}
theorem allI_at : ∀ {l : List Oper} {k : Nat}, AllI P ops Q I a0 k l → ∀ (i : Nat) (o : Oper), l[i]? = some o → OkI P ops Q I a0 (k + i) o
  | [], _, _, i, o, h => by simp at h
  | p :: l, k, ⟨h1, h2⟩, 0, o, h => by simp at h; subst h; exact h1
  | p :: l, k, ⟨h1, h2⟩, i + 1, o, h => by
    have := allI_at h2 i o (by simpa using h)
    rwa [show k + (i + 1) = k + 1 + i by omega]
structure InvI (P : Program) (ops : Array Oper) (I : (Nat → Bool) → (Nat → Value) → World → Prop) (a0 : Act) (listed : Array Bool) (a : Act) (w : World) : Prop where
  fr : FrameOk ops a0 a
  early : ∀ k, (∀ j, slotOf ops j = some k → listed.getD j false = false) → a.tmps.getD k undef = a0.tmps.getD k undef
  closed : ∀ (j : Nat) (o : Oper), ops[j]? = some o → listed.getD j false = true → ∀ e ∈ o.after.toList, Region.binds .any e = true → listed.getD e.on false = true
  inv : I (fun j => listed.getD j false) (slotV ops a) w
theorem wpAny_inv_tail (n : Nat) (hback : backW 0 ops.toList = true) (hb : apartB a0.tmps.size ops.toList = true) (hs : Region.sinkB .any ops n = true) (hc : Region.chainB .any ops n = true) (hn : n < ops.size)
    (hseq : Region.seqB .any ops (ops.size - n) n (headN n ops.size) = true) (hall : AllI P ops Q I a0 0 (ops.toList.take n))
    (hend : ∀ a w, FrameOk ops a0 a → (∀ k, (∀ j, j < n → slotOf ops j ≠ some k) → a.tmps.getD k undef = a0.tmps.getD k undef) → I (fun j => decide (j < n)) (slotV ops a) w → wpList P ops Q (ops.toList.drop n) a w) :
    ∀ (fuel : Nat) (listed : Array Bool) (a : Act) (w : World), HeadInv .any ops n listed → leftH n listed + (ops.size - n) ≤ fuel → InvI P ops I a0 listed a w → wpAny P .any ops Q fuel listed a w := by
  intro fuel
  induction fuel with
  | zero => intro listed a w inv hl hI; omega
  | succ fuel ih =>
    intro listed a w inv hl hI
    by_cases h0 : ∃ i, i < n ∧ listed.getD i true = false
    · obtain ⟨i0, hi0, hu0⟩ := h0
      have hready : ∀ i ∈ Region.ready .any ops listed, i < n := fun i hi => by
        rcases Nat.lt_or_ge i n with h | h
        · exact h
        · exact absurd hi (tail_waits hs hc hn inv (n - i0) i0 rfl hi0 hu0 i h)
      have hne : Region.ready .any ops listed ≠ [] := fun hr => by
        have key : ∀ m, m ≤ n → ∀ i, i < m → listed.getD i true = true := by
          intro m
          induction m with
          | zero => intro _ i hi; omega
          | succ m ihm =>
            intro hm i hi
            by_cases him : i < m
            · exact ihm (by omega) i him
            · have hie : i = m := by omega
              subst hie
              cases hli : listed.getD i true with
              | true => rfl
              | false =>
                exfalso
                have hio : i < ops.size := by omega
                have : i ∈ Region.ready .any ops listed := mem_ready.2 ⟨hli, ops[i], Array.getElem?_eq_getElem hio, fun e he hbb => by
                  have hb3 := backW_at hback i ops[i] (by simp [hio]) e (by simpa using he) hbb
                  have h3 := ihm (by omega) e.on (by omega)
                  have hlt : e.on < listed.size := by rw [inv.size]; omega
                  simp [hlt] at h3 ⊢
                  exact h3⟩
                rw [hr] at this; cases this
        rw [key n (Nat.le_refl _) i0 hi0] at hu0
        cases hu0
      refine ⟨fun h => absurd h hne, fun i hi => ?_⟩
      have hin := hready i hi
      obtain ⟨h1, o, ho, hdone⟩ := mem_ready.1 hi
      have hlt : i < ops.size := (Array.getElem?_eq_some_iff.1 ho).1
      have hok : OkI P ops Q I a0 i o := by
        have := allI_at hall i o (by rw [List.getElem?_take, if_pos hin]; simpa using ho)
        rwa [Nat.zero_add] at this
      have hdst : o.dst = slotOf ops i := by unfold slotOf; rw [ho]; rfl
      have hlt2 : i < listed.size := by rw [inv.size]; exact hlt
      have hfa : FrameAt ops a0 a i := ⟨hI.fr, fun k hk => hI.early k fun j hj => by
        have hj2 := hj
        unfold slotOf at hj2
        cases hoj : ops[j]? with
        | none => rw [hoj] at hj2; cases hj2
        | some oj =>
          rw [hoj] at hj2
          obtain ⟨e, he, heq, hbb⟩ := hk j oj hoj hj2
          cases hlj : listed.getD j false with
          | false => rfl
          | true =>
            have h5 := hI.closed j oj hoj hlj e he hbb
            rw [heq] at h5
            simp [hlt2] at h1 h5
            rw [h5] at h1; cases h1⟩
      have hself : listed.getD i false = false := by simp [hlt2] at h1 ⊢; exact h1
      have hsi : Since ops (fun j => listed.getD j false) i := ⟨hself, fun j hj => by
        have : ops.size ≤ j := by simpa using hj
        simp [show listed.size ≤ j by rw [inv.size]; exact this], hI.closed, fun o' ho' e he hbb => by
        rw [ho] at ho'; injection ho' with ho'; subst ho'
        exact hdone e (by simpa using he) hbb⟩
      obtain ⟨hw, hno⟩ := hok a w _ hfa hI.inv hsi
      have go : ∀ v w', I (upd (fun j => listed.getD j false) i) (updV (slotV ops a) i (match slotOf ops i with | some _ => v | none => undef)) w' → wpAny P .any ops Q fuel (listed.setIfInBounds i true) (a.put (slotOf ops i) v) w' := fun v w' hv => by
        refine ih _ _ _ (inv.set hi hin) (by have := leftH_set hin h1; omega) ⟨hI.fr.put hb i v, fun k hk => ?_, fun j oj hoj hlj e he hbb => ?_, ?_⟩
        · have hne : slotOf ops i ≠ some k := fun h => by have := hk i h; simp [hlt2] at this
          have h6 := hI.early k fun j hj => by
            have h7 := hk j hj
            by_cases hij : i = j
            · subst hij; simp [hlt2] at h7
            · rwa [getD_set_ne false hij] at h7
          rw [← h6]
          cases hsl : slotOf ops i with
          | none => rfl
          | some d =>
            have hdk : d ≠ k := fun h => hne (by rw [hsl, h])
            simp [Act.put, Array.getElem?_setIfInBounds_ne hdk]
        · by_cases hij : i = j
          · subst hij
            rw [ho] at hoj; injection hoj with hoj; subst hoj
            have h8 := hdone e (by simpa using he) hbb
            by_cases hie : i = e.on
            · rw [← hie]; simp [hlt2]
            · rw [getD_set_ne false hie]; exact h8
          · rw [getD_set_ne false hij] at hlj
            have h8 := hI.closed j oj hoj hlj e he hbb
            by_cases hie : i = e.on
            · rw [← hie]; simp [hlt2]
            · rw [getD_set_ne false hie]; exact h8
        · have e1 : (fun j => (listed.setIfInBounds i true).getD j false) = upd (fun j => listed.getD j false) i := by
            funext j
            unfold upd
            by_cases hij : j = i
            · subst hij; rw [if_pos rfl]; simp [hlt2]
            · rw [if_neg hij, getD_set_ne false (fun h => hij h.symm)]
          have e2 : slotV ops (a.put (slotOf ops i) v) = updV (slotV ops a) i (match slotOf ops i with | some _ => v | none => undef) := by
            funext j
            unfold updV
            by_cases hij : j = i
            · subst hij
              rw [if_pos rfl]
              unfold slotV
              cases hsl : slotOf ops j with
              | none => rfl
              | some d =>
                have hd := slotOf_lt hb hsl
                rw [← hI.fr.size] at hd
                simp [Act.put, hd]
            · rw [if_neg hij, slotV_put_other hb (fun h => hij h.symm)]
          rw [e1, e2]; exact hv
      unfold wpOp
      rw [ho]
      simp only
      split
      · rename_i hwant
        refine .inl (Oper.wp_mono (fun a' w' h => ?_) (hw hwant))
        obtain ⟨v, rfl, hv⟩ := h
        rw [hdst] at hv ⊢
        exact go v w' hv
      · rename_i hwant
        rw [hdst]
        exact go undef w (by have := hno (by simpa using hwant); cases slotOf ops i <;> exact this)
    · have hall1 : ∀ i, i < n → listed.getD i true = true := fun i hi => by
        cases h : listed.getD i true with
        | true => rfl
        | false => exact absurd ⟨i, hi, h⟩ h0
      have hcan := headN_eq (Nat.le_of_lt hn) inv.size hall1 (fun i h1 h2 => inv.tail i h1 h2)
      have hfalse : ∀ i, i < n → listed.getD i false = true := fun i hi => by
        have h := hall1 i hi
        have hlt : i < listed.size := by rw [inv.size]; omega
        simp [hlt] at h ⊢
        exact h
      have hL := hend a w hI.fr (fun k hk => hI.early k fun j hj => by
        rcases Nat.lt_or_ge j n with h | h
        · exact absurd hj (hk j h)
        · rcases Nat.lt_or_ge j ops.size with h2 | h2
          · exact getD_both (inv.tail j h h2)
          · simp [show listed.size ≤ j by rw [inv.size]; exact h2]) (by
        have e : (fun j => listed.getD j false) = fun j => decide (j < n) := by
          funext j
          by_cases hj : j < n
          · rw [hfalse j hj, decide_eq_true hj]
          · rw [decide_eq_false hj]
            rcases Nat.lt_or_ge j ops.size with h2 | h2
            · exact getD_both (inv.tail j (by omega) h2)
            · simp [show listed.size ≤ j by rw [inv.size]; exact h2]
        have h := hI.inv
        rwa [e] at h)
      have hdl : (ops.toList.drop n).length = ops.size - n := by simp
      have := wpAny_of_seq (md := .any) (Q' := Q) (ops.toList.drop n) n listed a w (fun j => by simp [List.getElem?_drop]) (by rw [hdl, hcan]; exact hseq) hL
      rw [hdl] at this
      exact wpAny_le this (by omega)
theorem wp_region_inv_tail {id : Nat} {w : World} (n : Nat) (hm : P.follows .mixedOrders = true) (hb : apartB a0.tmps.size ops.toList = true) (hback : backW 0 ops.toList = true)
    (hs : Region.sinkB .any ops n = true) (hc : Region.chainB .any ops n = true) (hn : n < ops.size) (hseq : Region.seqB .any ops (ops.size - n) n (headN n ops.size) = true)
    (hI : ∀ vs, I (fun _ => false) vs { w with drawn := w.drawn + 1 }) (hall : AllI P ops Q I a0 0 (ops.toList.take n))
    (hend : ∀ vs w', I (fun j => decide (j < n)) vs w' → wpList P ops Q (ops.toList.drop n) (putAll vs 0 (ops.toList.take n) a0) w') : (Code.region id ops true).wp P Q a0 w := by
  have hrep : ∀ j, (Array.replicate ops.size false).getD j false = false := fun j => by by_cases h : j < ops.size <;> simp [h]
  refine wp_region_any hm (wpAny_inv_tail n hback hb hs hc hn hseq hall (fun a w' hfr hea hf => ?_) ops.size _ a0 _ ⟨by simp, fun j oj _ hj => ?_, fun t _ h2 => getD_in (by simpa using h2) (hrep t)⟩ (by
    have h1 : leftH n (Array.replicate ops.size false) ≤ n := by unfold leftH; exact Nat.le_trans (List.length_filter_le _ _) (by simp)
    omega) ⟨⟨rfl, rfl, fun _ _ => rfl⟩, fun _ _ => rfl, fun j o _ hj => ?_, ?_⟩)
  · have htl : (ops.toList.take n).length = n := by simp; omega
    have hget : ∀ i o, (ops.toList.take n)[i]? = some o → ops[i]? = some o ∧ i < n := fun i o h => by
      rw [List.getElem?_take] at h
      split at h
      · rename_i h2; exact ⟨by simpa using h, h2⟩
      · cases h
    have h1 := hend (slotV ops a) w' hf
    have h2 : putAll (slotV ops a) 0 (ops.toList.take n) a0 = a := by
      rw [putAll_congr (ops.toList.take n) 0 a0 a hfr.defers.symm hfr.size.symm fun t hno => (hea t fun j hj hsl => ?_).symm]
      · refine putAll_same _ 0 fun i o ho => ?_
        obtain ⟨ho2, hin⟩ := hget i o ho
        rw [Nat.zero_add]
        have hdst : o.dst = slotOf ops i := by unfold slotOf; rw [ho2]; rfl
        rw [hdst]
        unfold slotV
        cases hsl : slotOf ops i with
        | none => rfl
        | some d =>
          refine act_ext rfl (by simp [Act.put]) fun k => ?_
          by_cases he : d = k
          · subst he
            have hd := slotOf_lt hb hsl
            rw [← hfr.size] at hd
            simp [Act.put, hd]
          · simp [Act.put, Array.getElem?_setIfInBounds_ne he]
      · unfold slotOf at hsl
        cases ho : ops[j]? with
        | none => rw [ho] at hsl; cases hsl
        | some o =>
          rw [ho] at hsl
          have hmem : o ∈ ops.toList.take n := List.mem_of_getElem? (i := j) (by rw [List.getElem?_take, if_pos hj]; simpa using ho)
          exact hno o hmem hsl
    rwa [h2] at h1
  · rw [hrep] at hj; cases hj
  · rw [hrep] at hj; cases hj
  · have e : (fun j => (Array.replicate ops.size false).getD j false) = fun _ => false := funext hrep
    rw [e]; exact hI _
theorem opi_yields {i : Nat} {o : Oper} {a : Act} {w w' : World} {L : Nat → Bool} (v : Value) (h : (execOp a.eval o).run P w = .ok (.value v) w') (hi : I (upd L i) (updV (slotV ops a) i (match o.dst with | some _ => v | none => undef)) w') :
    o.wp P a w (PostI ops I L i o a) Q := by
  unfold Oper.wp
  rw [h]
  exact ⟨v, rfl, hi⟩
theorem opi_calls {i : Nat} {o : Oper} {a : Act} {w : World} {L : Nat → Bool} {f : FuncId} {args : Array Value} (h : (execOp a.eval o).run P w = .ok (.enter f args) w)
    (hc : Calls P f args w fun e w' => ∃ v, e = .returned v ∧ I (upd L i) (updV (slotV ops a) i (match o.dst with | some _ => v | none => undef)) w') :
    o.wp P a w (PostI ops I L i o a) Q := by
  unfold Oper.wp
  rw [h]
  refine hc.mono ?_
  rintro e w' ⟨v, rfl, hv⟩
  exact ⟨v, rfl, hv⟩
theorem opi_calls2 {i : Nat} {o : Oper} {a : Act} {w : World} {L : Nat → Bool} {f : FuncId} {args : Array Value}
    (hc : Calls P f args w fun e w' => ∃ v, e = .returned v ∧ I (upd L i) (updV (slotV ops a) i (match o.dst with | some _ => v | none => undef)) w') (h : (execOp a.eval o).run P w = .ok (.enter f args) w) :
    o.wp P a w (PostI ops I L i o a) Q := opi_calls h hc
end
end Go.Proofs.YtlmakdclebbbkaaGreat

namespace Go.Proofs.YtlmakdclebbbkaaGreat
open Go.ChangeShapes Go.WideShapes Go.ChangeAt Go.RowKit
set_option linter.unusedVariables false
set_option linter.unusedSimpArgs false
set_option maxRecDepth 100000
theorem signF_k {k : Int} (h : ¬ signF k = ⟨#[]⟩) : 1 ≤ k ∧ k ≤ 4 := by
  by_cases hk : 1 ≤ k ∧ k ≤ 4
  · exact hk
  · exfalso; apply h
    unfold signF
    simp only [show ¬ k = 1 by omega, show ¬ k = 2 by omega, show ¬ k = 3 by omega, show ¬ k = 4 by omega, if_false]
theorem mtcOk_facts {x : Mtc} (h : mtcOk x = true) : wordF x.1 = true ∧ x.2.1.size ≤ 24 ∧ 1 ≤ x.2.2 ∧ x.2.2 ≤ 4 := by
  simp only [mtcOk, Bool.and_eq_true, decide_eq_true_eq, Bool.not_eq_true', decide_eq_false_iff_not] at h
  exact ⟨h.1, h.2.1, signF_k h.2.2⟩
theorem rightM_facts {l : List Mtc} (h : rightM l = true) : l.length ≤ 6 ∧ ∀ x ∈ l, wordF x.1 = true ∧ x.2.1.size ≤ 24 ∧ 1 ≤ x.2.2 ∧ x.2.2 ≤ 4 := by
  simp only [rightM, Bool.and_eq_true, decide_eq_true_eq] at h
  exact ⟨h.1, fun x hx => mtcOk_facts (List.all_eq_true.1 h.2 x hx)⟩
end Go.Proofs.YtlmakdclebbbkaaGreat

namespace Go.Proofs.YtlmakdclebbbkaaGreat
open Go.ChangeShapes Go.WideShapes Go.ChangeAt Go.RowKit
set_option linter.unusedVariables false
set_option linter.unusedSimpArgs false
set_option maxRecDepth 100000
/-- From place p on tokens alike these stand. -/
def At (ts : List Tok) (p : Nat) (us : List Tok) : Prop := ∀ i (h : i < us.length), ∃ t, ts[p + i]? = some t ∧ alike t us[i]
theorem At.nil (ts : List Tok) (p : Nat) : At ts p [] := fun i h => absurd h (by simp)
theorem At.left {ts : List Tok} {p : Nat} {us vs : List Tok} (h : At ts p (us ++ vs)) : At ts p us := fun i hi => by
  obtain ⟨t, h1, h2⟩ := h i (by rw [List.length_append]; omega)
  rw [List.getElem_append_left hi] at h2
  exact ⟨t, h1, h2⟩
theorem At.right {ts : List Tok} {p : Nat} {us vs : List Tok} (h : At ts p (us ++ vs)) : At ts (p + us.length) vs := fun i hi => by
  obtain ⟨t, h1, h2⟩ := h (us.length + i) (by rw [List.length_append]; omega)
  rw [List.getElem_append_right (by omega)] at h2
  simp only [Nat.add_sub_cancel_left] at h2
  exact ⟨t, by rw [Nat.add_assoc]; exact h1, h2⟩
theorem At.app {ts : List Tok} {p : Nat} {us vs : List Tok} (h : At ts p us) (k : At ts (p + us.length) vs) : At ts p (us ++ vs) := fun i hi => by
  by_cases hl : i < us.length
  · obtain ⟨t, h1, h2⟩ := h i hl
    exact ⟨t, h1, by rw [List.getElem_append_left hl]; exact h2⟩
  · rw [List.length_append] at hi
    obtain ⟨t, h1, h2⟩ := k (i - us.length) (by omega)
    exact ⟨t, by rw [← h1]; congr 1; omega, by rw [List.getElem_append_right (by omega)]; exact h2⟩
theorem At.tail {ts : List Tok} {p : Nat} {u : Tok} {vs : List Tok} (h : At ts p (u :: vs)) : At ts (p + 1) vs := At.right (us := [u]) h
theorem At.cons {ts : List Tok} {p : Nat} {u : Tok} {vs : List Tok} (h : ∃ t, ts[p]? = some t ∧ alike t u) (k : At ts (p + 1) vs) : At ts p (u :: vs) := At.app (us := [u]) (fun i hi => by
  have : i = 0 := by simpa using hi
  subst this; exact h) k
theorem At.lt {ts : List Tok} {p : Nat} {us : List Tok} (h : At ts p us) : us = [] ∨ p + us.length ≤ ts.length := by
  cases us with
  | nil => exact .inl rfl
  | cons u us =>
    refine .inr ?_
    obtain ⟨t, h1, _⟩ := h us.length (by simp)
    have := (List.getElem?_eq_some_iff.1 h1).1
    rw [List.length_cons]; omega
section
variable {ts : List Tok} {en : Int} {p : Nat} {fa : Int} {u : Tok} {vs : List Tok}
end
end Go.Proofs.YtlmakdclebbbkaaGreat

namespace Go.Proofs.YtlmakdclebbbkaaGreat
open Go.ChangeShapes Go.WideShapes Go.ChangeAt Go.RowKit
set_option linter.unusedVariables false
set_option linter.unusedSimpArgs false
set_option maxRecDepth 100000
theorem bat_below {w w' : World} {B b : Nat} {p : Value} {l : List Value} (h : Lib.BuilderAtF 130 5 B b p l w) (hb : Below w.heap.size w w') : Lib.BuilderAtF 130 5 B b p l w' := by
  obtain ⟨hB, v, hbk, hown, hne⟩ := h
  have hlt : b < w.heap.size := by
    rcases Nat.lt_or_ge b w.heap.size with h' | h'
    · exact h'
    · simp [Array.getElem?_eq_none h'] at hbk
  refine ⟨hB, v, (hb.block b hlt).trans hbk, ⟨hown.1, ?_⟩, hne⟩
  rcases hown.2 with h | ⟨g, cap, cur, fz, hv, hg, hh, rest⟩
  · exact .inl h
  · refine .inr ⟨g, cap, cur, fz, hv, hg, ?_, rest⟩
    have : g < w.heap.size := (Array.getElem?_eq_some_iff.1 hh).1
    exact (hb.block g this).trans hh
theorem Bld.below {w w' : World} {B b : Nat} {l : List Value} (h : Bld w B b l) (hb : Below w.heap.size w w') : Bld w' B b l := h.elim (fun x => .inl (bat_below x hb)) (fun x => .inr (bat_below x hb))
section
variable {wB w0 w w' : World} {bb xb : Nat} {cs : List Value} {l l' : List UInt8}
end
/-- The kinds of a typed expression in memory. -/
theorem xe_typed {kk nn : Int} {mv nv kv : Value} {ms : List Mtc} {ns : List ByteArray} {ks : List XE} (h : (XE.mk kk nn mv ms nv ns kv ks).pe.ty ≠ 0) :
    (kk = 1 ∧ ms = [] ∧ ns = [] ∧ ks = []) ∨ (kk = 2 ∧ rightM ms = true ∧ 1 ≤ nn ∧ nn ≤ 1048576 ∧ ns = [] ∧ ks = []) ∨ (17 ≤ kk ∧ kk ≤ 20 ∧ nn = 0 ∧ ms = [] ∧ namesF ns = true ∧ ∃ a, ks = [a] ∧ a.pe.ty = 2) ∨ (3 ≤ kk ∧ kk ≤ 16 ∧ nn = 0 ∧ ms = [] ∧ ns = [] ∧ ∃ a b, ks = [a, b] ∧ a.pe.ty ≠ 0 ∧ b.pe.ty ≠ 0) := by
  have hp := ty_typed h
  obtain ⟨p, hpe⟩ : ∃ p, (XE.mk kk nn mv ms nv ns kv ks).pe = p := ⟨_, rfl⟩
  rw [hpe] at hp
  have hpe : PE.mk kk nn ms ns (pesX ks) = p := hpe
  have hnil : ∀ l : List XE, pesX l = [] → l = [] := fun l h => List.eq_nil_of_length_eq_zero (by rw [← pesX_length l, h]; rfl)
  cases hp with
  | num n => injection hpe with e1 e2 e3 e4 e5; exact .inl ⟨e1, e3, e4, hnil _ e5⟩
  | pick n ms' h h1 h2 => injection hpe with e1 e2 e3 e4 e5; subst e2; subst e3; exact .inr (.inl ⟨e1, h, h1, h2, e4, hnil _ e5⟩)
  | one k ns' a h1 h2 hn ha =>
    injection hpe with e1 e2 e3 e4 e5
    subst e1; subst e4
    refine .inr (.inr (.inl ⟨h1, h2, e2, e3, hn, ?_⟩))
    match ks, e5 with
    | [x], e5 => simp only [pesX] at e5; injection e5 with e5 _; exact ⟨x, rfl, by rw [e5]; exact ha⟩
    | [], e5 => simp [pesX] at e5
    | x :: y :: r, e5 => simp [pesX] at e5
  | two k a b h1 h2 ha hb =>
    injection hpe with e1 e2 e3 e4 e5
    subst e1
    refine .inr (.inr (.inr ⟨h1, h2, e2, e3, e4, ?_⟩))
    match ks, e5 with
    | [x, y], e5 => simp only [pesX] at e5; injection e5 with e5 e6; injection e6 with e6 _; exact ⟨x, y, rfl, by rw [e5]; exact ha, by rw [e6]; exact hb⟩
    | [], e5 => simp [pesX] at e5
    | [x], e5 => simp [pesX] at e5
    | x :: y :: z :: r, e5 => simp [pesX] at e5
end Go.Proofs.YtlmakdclebbbkaaGreat

namespace Go.Proofs.YtlmakdclebbbkaaGreat
open Go.ChangeShapes Go.WideShapes Go.ChangeAt Go.RowKit
set_option linter.unusedVariables false
set_option linter.unusedSimpArgs false
set_option maxRecDepth 100000
theorem blk_fr {w : World} {b : Nat} {t : TypeId} {cs : List Value} (h : Blk w b t cs) : w.frozen? ⟨b, 0, none⟩ = false ∧ w.frozen? ⟨b, 1, none⟩ = false ∧ w.frozen? ⟨b, 2, none⟩ = false ∧ w.frozen? ⟨b, 3, none⟩ = false ∧ w.frozen? ⟨b, 4, none⟩ = false := ⟨h.frozen 0, h.frozen 1, h.frozen 2, h.frozen 3, h.frozen 4⟩
end Go.Proofs.YtlmakdclebbbkaaGreat

namespace Go.Proofs.YtlmakdclebbbkaaGreat
open Go.ChangeShapes Go.WideShapes Go.ChangeAt Go.RowKit
set_option linter.unusedVariables false
set_option linter.unusedSimpArgs false
set_option maxRecDepth 100000
theorem typed_kids {x : XE} (h : x.pe.ty ≠ 0) : ∀ k ∈ x.kids, k.pe.ty ≠ 0 := by
  obtain ⟨kk, nn, mv, ms, nv, ns, kv, ks⟩ := x
  intro k hk
  have hk : k ∈ ks := hk
  rcases xe_typed h with ⟨_, _, _, rfl⟩ | ⟨_, _, _, _, _, rfl⟩ | ⟨_, _, _, _, _, a, rfl, ha⟩ | ⟨_, _, _, _, _, a, b, rfl, ha, hb⟩
  · cases hk
  · cases hk
  · rw [List.mem_singleton] at hk; subst hk; rw [ha]; decide
  · rw [List.mem_cons, List.mem_singleton] at hk
    rcases hk with rfl | rfl
    · exact ha
    · exact hb
section
variable {w0 W W' : World} {k1 k2 : KSet} {g1 g2 : Nat} {L : Nat → Bool} {vs : Nat → Value}
end
end Go.Proofs.YtlmakdclebbbkaaGreat
