/- Texts, merged in one. -/
import Derived.Test.YtcaapbbbekggiaaGreatDoorBase
import Derived.Lib.PathFns
import Derived.Lib.ItoaLen
import Derived.Lib.SmallJoins
import Derived.Lib.AppendIntMem
import Derived.Lib.OthersKept
import Derived.Deep.CutBlock
import Derived.Deep.DeepCutAuto
import Derived.Deep.QuietTactic
import Derived.BigQuiet
import Derived.Deep.RegionLaw
namespace Go.Proofs.YtcaapbbbekggiaaGreatDoor
open Go Go.RowKit
set_option linter.unusedVariables false
/-- Each operation waits for earlier ones alone, by the edges that bind. -/
def backW : Nat → List Oper → Bool
  | _, [] => true
  | i, o :: l => o.after.toList.all (fun e => decide (e.on < i) || !Region.binds .any e) && backW (i + 1) l
theorem backW_at : ∀ {l : List Oper} {k : Nat}, backW k l = true → ∀ (i : Nat) (o : Oper), l[i]? = some o → ∀ e ∈ o.after.toList, Region.binds .any e = true → e.on < k + i
  | [], _, _, i, o, h, _, _, _ => by simp at h
  | p :: l, k, hb, 0, o, h, e, he, hbb => by
    simp at h; subst h
    simp only [backW, Bool.and_eq_true] at hb
    have h1 := List.all_eq_true.1 hb.1 e he
    rw [hbb] at h1
    simpa using h1
  | p :: l, k, hb, i + 1, o, h, e, he, hbb => by
    simp only [backW, Bool.and_eq_true] at hb
    have := backW_at hb.2 i o (by simpa using h) e he hbb
    omega
theorem all_listedW {ops : Array Oper} (hback : backW 0 ops.toList = true) {listed : Array Bool} (hs : listed.size = ops.size) (hr : Region.ready .any ops listed = []) : ∀ i, i < ops.size → listed.getD i true = true := by
  intro i
  induction i using Nat.strongRecOn with
  | _ i ih =>
    intro hi
    cases hc : listed.getD i true with
    | true => rfl
    | false =>
      have : i ∈ Region.ready .any ops listed := by
        rw [mem_ready]
        refine ⟨hc, ops[i], Array.getElem?_eq_getElem hi, fun e he hb => ?_⟩
        have h1 := backW_at hback i ops[i] (by simp [hi]) e (by simpa using he) hb
        have h2 := ih e.on (by omega) (by omega)
        have hlt : e.on < listed.size := by omega
        simp [hlt] at h2 ⊢
        exact h2
      rw [hr] at this
      cases this
def upd (L : Nat → Bool) (i j : Nat) : Bool := if j = i then true else L j
def waitsB (ops : Array Oper) (j i : Nat) : Bool := match ops[j]? with | some o => o.after.toList.any (fun e => e.on == i && Region.binds .any e) | none => true
/-- Which operations are done, ahead of operation i. -/
structure Since (ops : Array Oper) (L : Nat → Bool) (i : Nat) : Prop where
  self : L i = false
  none_ : ∀ j, ops[j]? = none → L j = false
  closed : ∀ (j : Nat) (o : Oper), ops[j]? = some o → L j = true → ∀ e ∈ o.after.toList, Region.binds .any e = true → L e.on = true
  ready : ∀ o, ops[i]? = some o → ∀ e ∈ o.after.toList, Region.binds .any e = true → L e.on = true
theorem Since.not {ops : Array Oper} {L : Nat → Bool} {i k : Nat} (h : Since ops L i) (hk : L k = false) (j : Nat) (hj : waitsB ops j k = true) : L j = false := by
  unfold waitsB at hj
  cases ho : ops[j]? with
  | none => exact h.none_ j ho
  | some o =>
    rw [ho] at hj
    obtain ⟨e, he, h2⟩ := List.any_eq_true.1 hj
    rw [Bool.and_eq_true] at h2
    cases hl : L j with
    | false => rfl
    | true =>
      have h3 := h.closed j o ho hl e he h2.2
      have h4 : e.on = k := by simpa using h2.1
      rw [h4, hk] at h3; cases h3
theorem Since.done {ops : Array Oper} {L : Nat → Bool} {i : Nat} (h : Since ops L i) (hi : i < ops.size) (j : Nat) (hj : waitsB ops i j = true) : L j = true := by
  unfold waitsB at hj
  rw [Array.getElem?_eq_getElem hi] at hj
  obtain ⟨e, he, h2⟩ := List.any_eq_true.1 hj
  rw [Bool.and_eq_true] at h2
  have h3 := h.ready ops[i] (Array.getElem?_eq_getElem hi) e he h2.2
  have h4 : e.on = j := by simpa using h2.1
  rw [h4] at h3; exact h3
def DepsP (V : Nat → Value → Prop) (ops : Array Oper) (a : Act) : List Edge → Prop
  | [] => True
  | e :: l => (Region.binds .any e = true → V e.on (slotV ops a e.on)) ∧ DepsP V ops a l
def PostW (I : (Nat → Bool) → World → Prop) (V : Nat → Value → Prop) (L : Nat → Bool) (i : Nat) (o : Oper) (a : Act) (a' : Act) (w' : World) : Prop := ∃ v, a' = a.put o.dst v ∧ V i (match o.dst with | some _ => v | none => undef) ∧ I (upd L i) w'
def OkW (P : Program) (ops : Array Oper) (Q : Exit → Act → World → Prop) (I : (Nat → Bool) → World → Prop) (V : Nat → Value → Prop) (a0 : Act) (i : Nat) (o : Oper) : Prop :=
  ∀ a w L, FrameAt ops a0 a i → I L w → Since ops L i → DepsP V ops a o.after.toList →
    (Region.wanted o (yielded ops a.tmps) = true → o.wp P a w (PostW I V L i o a) Q) ∧ (Region.wanted o (yielded ops a.tmps) = false → V i undef ∧ I (upd L i) w)
def AllW (P : Program) (ops : Array Oper) (Q : Exit → Act → World → Prop) (I : (Nat → Bool) → World → Prop) (V : Nat → Value → Prop) (a0 : Act) : Nat → List Oper → Prop
  | _, [] => True
  | i, o :: l => OkW P ops Q I V a0 i o ∧ AllW P ops Q I V a0 (i + 1) l
def AllVP (V : Nat → Value → Prop) (vs : Nat → Value) : Nat → List Oper → Prop
  | _, [] => True
  | i, _ :: l => V i (vs i) ∧ AllVP V vs (i + 1) l
section
variable {P : Program} {ops : Array Oper} {Q : Exit → Act → World → Prop} {I : (Nat → Bool) → World → Prop} {V : Nat → Value → Prop} {a0 : Act}
theorem allW_at : ∀ {l : List Oper} {k : Nat}, AllW P ops Q I V a0 k l → ∀ (i : Nat) (o : Oper), l[i]? = some o → OkW P ops Q I V a0 (k + i) o
  | [], _, _, i, o, h => by simp at h
  | p :: l, k, ⟨h1, h2⟩, 0, o, h => by simp at h; subst h; exact h1
  | p :: l, k, ⟨h1, h2⟩, i + 1, o, h => by
    have := allW_at h2 i o (by simpa using h)
    rwa [show k + (i + 1) = k + 1 + i by omega]
theorem depsP_of {a : Act} {listed : Array Bool} (hf : ∀ i, listed.getD i false = true → V i (slotV ops a i)) :
    ∀ l : List Edge, (∀ e ∈ l, Region.binds .any e = true → listed.getD e.on false = true) → DepsP V ops a l
  | [], _ => trivial
  | e :: l, h => ⟨fun hb => hf _ (h e List.mem_cons_self hb), depsP_of hf l fun e' he' => h e' (List.mem_cons_of_mem _ he')⟩
theorem allVP_of {vs : Nat → Value} : ∀ (l : List Oper) (k : Nat), (∀ i, i < l.length → V (k + i) (vs (k + i))) → AllVP V vs k l
  | [], _, _ => trivial
  | o :: l, k, h => ⟨h 0 (by simp), allVP_of l (k + 1) fun i hi => by have := h (i + 1) (by simpa using hi); rwa [show k + (i + 1) = k + 1 + i by omega] at this⟩
structure InvW (P : Program) (ops : Array Oper) (I : (Nat → Bool) → World → Prop) (V : Nat → Value → Prop) (a0 : Act) (listed : Array Bool) (a : Act) (w : World) : Prop where
  fr : FrameOk ops a0 a
  early : ∀ k, (∀ j, slotOf ops j = some k → listed.getD j false = false) → a.tmps.getD k undef = a0.tmps.getD k undef
  closed : ∀ (j : Nat) (o : Oper), ops[j]? = some o → listed.getD j false = true → ∀ e ∈ o.after.toList, Region.binds .any e = true → listed.getD e.on false = true
  inv : I (fun j => listed.getD j false) w
  facts : ∀ i, listed.getD i false = true → V i (slotV ops a i)
theorem wpAny_writes (hb : apartB a0.tmps.size ops.toList = true) (hback : backW 0 ops.toList = true) (hall : AllW P ops Q I V a0 0 ops.toList)
    (hend : ∀ a w, FrameOk ops a0 a → I (fun j => decide (j < ops.size)) w → (∀ i, i < ops.size → V i (slotV ops a i)) → Q .normal a w) :
    ∀ (fuel : Nat) (listed : Array Bool) (a : Act) (w : World), listed.size = ops.size → left ops.size listed ≤ fuel → InvW P ops I V a0 listed a w → wpAny P .any ops Q fuel listed a w := by
  have fin : ∀ (listed : Array Bool) (a : Act) (w : World), listed.size = ops.size → InvW P ops I V a0 listed a w → Region.ready .any ops listed = [] → Q .normal a w := fun listed a w hs hI hr => by
    have hal : ∀ i, i < ops.size → listed.getD i false = true := fun i hi => by
      have h1 := all_listedW hback hs hr i hi
      have hlt : i < listed.size := by omega
      simp [hlt] at h1 ⊢
      exact h1
    refine hend a w hI.fr ?_ fun i hi => hI.facts i (hal i hi)
    have e : (fun j => listed.getD j false) = fun j => decide (j < ops.size) := by
      funext j
      by_cases hj : j < ops.size
      · rw [hal j hj, decide_eq_true hj]
      · rw [decide_eq_false hj]; simp [show listed.size ≤ j by omega]
    have h2 := hI.inv
    rwa [e] at h2
  intro fuel
  induction fuel with
  | zero =>
    intro listed a w hs hl hI
    have hr : Region.ready .any ops listed = [] := by
      rw [List.eq_nil_iff_forall_not_mem]
      intro i hi
      obtain ⟨h1, o, ho, _⟩ := mem_ready.1 hi
      have hlt : i < ops.size := (Array.getElem?_eq_some_iff.1 ho).1
      rw [left_none hs (by omega) i hlt] at h1
      cases h1
    exact ⟨hr, fin listed a w hs hI hr⟩
  | succ fuel ih =>
    intro listed a w hs hl hI
    refine ⟨fin listed a w hs hI, fun i hi => ?_⟩
    obtain ⟨h1, o, ho, hdone⟩ := mem_ready.1 hi
    have hlt : i < ops.size := (Array.getElem?_eq_some_iff.1 ho).1
    have hlt2 : i < listed.size := by omega
    have hok : OkW P ops Q I V a0 i o := by have := allW_at hall i o (by simpa using ho); rwa [Nat.zero_add] at this
    have hdst : o.dst = slotOf ops i := by unfold slotOf; rw [ho]; rfl
    have hself : listed.getD i false = false := by simp [hlt2] at h1 ⊢; exact h1
    have hfa : FrameAt ops a0 a i := ⟨hI.fr, fun k hk => hI.early k fun j hj => by
      have hj2 := hj
      unfold slotOf at hj2
      cases hoj : ops[j]? with
      | none => rw [hoj] at hj2; cases hj2
      | some oj =>
        rw [hoj] at hj2
        obtain ⟨e, he, heq, hbb⟩ := hk j oj hoj hj2
        cases hlj : listed.getD j false with
        | false => rfl
        | true =>
          have h5 := hI.closed j oj hoj hlj e he hbb
          rw [heq, hself] at h5; cases h5⟩
    have hsi : Since ops (fun j => listed.getD j false) i := ⟨hself, fun j hj => by
      have : ops.size ≤ j := by simpa using hj
      simp [show listed.size ≤ j by omega], hI.closed, fun o' ho' e he hbb => by
      rw [ho] at ho'; injection ho' with ho'; subst ho'
      exact hdone e (by simpa using he) hbb⟩
    obtain ⟨hw, hn⟩ := hok a w _ hfa hI.inv hsi (depsP_of hI.facts _ fun e he hbb => hdone e (by simpa using he) hbb)
    have go : ∀ v w', I (upd (fun j => listed.getD j false) i) w' → V i (match slotOf ops i with | some _ => v | none => undef) → wpAny P .any ops Q fuel (listed.setIfInBounds i true) (a.put (slotOf ops i) v) w' := fun v w' hiw hv => by
      refine ih _ _ _ (by simpa using hs) (by have := left_set hs h1; omega) ⟨hI.fr.put hb i v, fun k hk => ?_, fun j oj hoj hlj e he hbb => ?_, ?_, fun j hj => ?_⟩
      · have hne : slotOf ops i ≠ some k := fun h => by have := hk i h; simp [hlt2] at this
        have h6 := hI.early k fun j hj => by
          have h7 := hk j hj
          by_cases hij : i = j
          · subst hij; simp [hlt2] at h7
          · rwa [getD_set_ne false hij] at h7
        rw [← h6]
        cases hsl : slotOf ops i with
        | none => rfl
        | some d =>
          have hdk : d ≠ k := fun h => hne (by rw [hsl, h])
          simp [Act.put, Array.getElem?_setIfInBounds_ne hdk]
      · by_cases hij : i = j
        · subst hij
          rw [ho] at hoj; injection hoj with hoj; subst hoj
          have h8 := hdone e (by simpa using he) hbb
          by_cases hie : i = e.on
          · rw [← hie]; simp [hlt2]
          · rw [getD_set_ne false hie]; exact h8
        · rw [getD_set_ne false hij] at hlj
          have h8 := hI.closed j oj hoj hlj e he hbb
          by_cases hie : i = e.on
          · rw [← hie]; simp [hlt2]
          · rw [getD_set_ne false hie]; exact h8
      · have e : (fun j => (listed.setIfInBounds i true).getD j false) = upd (fun j => listed.getD j false) i := by
          funext j
          unfold upd
          by_cases hij : j = i
          · subst hij; rw [if_pos rfl]; simp [hlt2]
          · rw [if_neg hij, getD_set_ne false (fun h => hij h.symm)]
        rw [e]; exact hiw
      by_cases hij : i = j
      · subst hij
        have e : slotV ops (a.put (slotOf ops i) v) i = match slotOf ops i with | some _ => v | none => undef := by
          unfold slotV
          cases hsl : slotOf ops i with
          | none => rfl
          | some d =>
            have hd := slotOf_lt hb hsl
            rw [← hI.fr.size] at hd
            simp [Act.put, hd]
        rw [e]
        exact hv
      · rw [slotV_put_other hb hij]
        refine hI.facts j ?_
        rw [getD_set_ne false hij] at hj
        exact hj
    unfold wpOp
    rw [ho]
    simp only
    split
    · rename_i hwant
      refine .inl (Oper.wp_mono (fun a' w' h => ?_) (hw hwant))
      obtain ⟨v, rfl, hv, hiw⟩ := h
      rw [hdst] at hv ⊢
      exact go v w' hiw hv
    · rename_i hwant
      rw [hdst]
      have hn2 := hn (by simpa using hwant)
      exact go undef w hn2.2 (by cases slotOf ops i <;> exact hn2.1)
theorem wp_region_writes {id : Nat} {w : World} (hm : P.follows .mixedOrders = true) (hb : apartB a0.tmps.size ops.toList = true) (hback : backW 0 ops.toList = true)
    (hI : I (fun _ => false) { w with drawn := w.drawn + 1 }) (hall : AllW P ops Q I V a0 0 ops.toList)
    (hend : ∀ vs w', I (fun j => decide (j < ops.size)) w' → AllVP V vs 0 ops.toList → Q .normal (putAll vs 0 ops.toList a0) w') : (Code.region id ops true).wp P Q a0 w := by
  have hrep : ∀ j, (Array.replicate ops.size false).getD j false = false := fun j => by by_cases h : j < ops.size <;> simp [h]
  refine wp_region_any hm (wpAny_writes hb hback hall (fun a w' hfr hi hf => ?_) ops.size _ a0 _ (by simp) (by unfold left; exact Nat.le_trans (List.length_filter_le _ _) (by simp)) ⟨⟨rfl, rfl, fun _ _ => rfl⟩, fun _ _ => rfl, fun j o _ hj => ?_, ?_, fun i hi => ?_⟩)
  · have h1 := hend (slotV ops a) w' hi (allVP_of _ 0 fun i hi => by rw [Nat.zero_add]; exact hf i (by simpa using hi))
    have h2 : putAll (slotV ops a) 0 ops.toList a0 = a := by
      rw [putAll_congr ops.toList 0 a0 a hfr.defers.symm hfr.size.symm fun t hno => (hfr.same t fun j hj => ?_).symm]
      · refine putAll_same _ 0 fun i o ho => ?_
        rw [Nat.zero_add]
        have hdst : o.dst = slotOf ops i := by unfold slotOf; rw [show ops[i]? = some o by simpa using ho]; rfl
        rw [hdst]
        unfold slotV
        cases hsl : slotOf ops i with
        | none => rfl
        | some d =>
          refine act_ext rfl (by simp [Act.put]) fun k => ?_
          by_cases he : d = k
          · subst he
            have hd := slotOf_lt hb hsl
            rw [← hfr.size] at hd
            simp [Act.put, hd]
          · simp [Act.put, Array.getElem?_setIfInBounds_ne he]
      · unfold slotOf at hj
        cases ho : ops[j]? with
        | none => rw [ho] at hj; cases hj
        | some o => rw [ho] at hj; exact hno o (by simpa using Array.mem_of_getElem? ho) hj
    rwa [h2] at h1
  · rw [hrep] at hj; cases hj
  · have e : (fun j => (Array.replicate ops.size false).getD j false) = fun _ => false := funext hrep
    rw [e]; exact hI
  · rw [hrep] at hi; cases hi
theorem opw_yields {i : Nat} {o : Oper} {a : Act} {w w' : World} {L : Nat → Bool} (v : Value) (h : (execOp a.eval o).run P w = .ok (.value v) w') (hv : V i (match o.dst with | some _ => v | none => undef)) (hi : I (upd L i) w') :
    o.wp P a w (PostW I V L i o a) Q := by
  unfold Oper.wp
  rw [h]
  exact ⟨v, rfl, hv, hi⟩
theorem opw_stores {i : Nat} {o : Oper} {a : Act} {w w' : World} {L : Nat → Bool} (hd : o.dst = none) (h : (execOp a.eval o).run P w = .ok .skip w') (hv : V i undef) (hi : I (upd L i) w') :
    o.wp P a w (PostW I V L i o a) Q := by
  unfold Oper.wp
  rw [h]
  refine ⟨undef, ?_, ?_, hi⟩
  · rw [hd]; try rfl
  · rw [hd]; exact hv
end
end Go.Proofs.YtcaapbbbekggiaaGreatDoor

namespace Go.Proofs.YtcaapbbbekggiaaGreatDoor
open Go Go.RowKit
set_option linter.unusedVariables false
def updV (vs : Nat → Value) (i : Nat) (v : Value) (j : Nat) : Value := if j = i then v else vs j
theorem updV_self (vs : Nat → Value) (i : Nat) (v : Value) : updV vs i v i = v := by unfold updV; rw [if_pos rfl]
theorem updV_other (vs : Nat → Value) {i j : Nat} (v : Value) (h : j ≠ i) : updV vs i v j = vs j := by unfold updV; rw [if_neg h]
theorem upd_self (L : Nat → Bool) (i : Nat) : upd L i i = true := by unfold upd; rw [if_pos rfl]
theorem upd_other (L : Nat → Bool) {i j : Nat} (h : j ≠ i) : upd L i j = L j := by unfold upd; rw [if_neg h]
def PostI (ops : Array Oper) (I : (Nat → Bool) → (Nat → Value) → World → Prop) (L : Nat → Bool) (i : Nat) (o : Oper) (a : Act) (a' : Act) (w' : World) : Prop := ∃ v, a' = a.put o.dst v ∧ I (upd L i) (updV (slotV ops a) i (match o.dst with | some _ => v | none => undef)) w'
def OkI (P : Program) (ops : Array Oper) (Q : Exit → Act → World → Prop) (I : (Nat → Bool) → (Nat → Value) → World → Prop) (a0 : Act) (i : Nat) (o : Oper) : Prop :=
  ∀ a w L, FrameAt ops a0 a i → I L (slotV ops a) w → Since ops L i →
    (Region.wanted o (yielded ops a.tmps) = true → o.wp P a w (PostI ops I L i o a) Q) ∧ (Region.wanted o (yielded ops a.tmps) = false → I (upd L i) (updV (slotV ops a) i undef) w)
def AllI (P : Program) (ops : Array Oper) (Q : Exit → Act → World → Prop) (I : (Nat → Bool) → (Nat → Value) → World → Prop) (a0 : Act) : Nat → List Oper → Prop
  | _, [] => True
  | i, o :: l => OkI P ops Q I a0 i o ∧ AllI P ops Q I a0 (i + 1) l
section
variable {P : Program} {ops : Array Oper} {Q : Exit → Act → World → Prop} {I : (Nat → Bool) → (Nat → Value) → World → Prop} {a0 : Act}
theorem allI_at : ∀ {l : List Oper} {k : Nat}, AllI P ops Q I a0 k l → ∀ (i : Nat) (o : Oper), l[i]? = some o → OkI P ops Q I a0 (k + i) o
  | [], _, _, i, o, h => by simp at h
  | p :: l, k, ⟨h1, h2⟩, 0, o, h => by simp at h; subst h; exact h1
  | p :: l, k, ⟨h1, h2⟩, i + 1, o, h => by
    have := allI_at h2 i o (by simpa using h)
    rwa [show k + (i + 1) = k + 1 + i by omega]
structure InvI (P : Program) (ops : Array Oper) (I : (Nat → Bool) → (Nat → Value) → World → Prop) (a0 : Act) (listed : Array Bool) (a : Act) (w : World) : Prop where
  fr : FrameOk ops a0 a
  early : ∀ k, (∀ j, slotOf ops j = some k → listed.getD j false = false) → a.tmps.getD k undef = a0.tmps.getD k undef
  closed : ∀ (j : Nat) (o : Oper), ops[j]? = some o → listed.getD j false = true → ∀ e ∈ o.after.toList, Region.binds .any e = true → listed.getD e.on false = true
  inv : I (fun j => listed.getD j false) (slotV ops a) w
theorem wpAny_inv_tail (n : Nat) (hback : backW 0 ops.toList = true) (hb : apartB a0.tmps.size ops.toList = true) (hs : Region.sinkB .any ops n = true) (hc : Region.chainB .any ops n = true) (hn : n < ops.size)
    (hseq : Region.seqB .any ops (ops.size - n) n (headN n ops.size) = true) (hall : AllI P ops Q I a0 0 (ops.toList.take n))
    (hend : ∀ a w, FrameOk ops a0 a → (∀ k, (∀ j, j < n → slotOf ops j ≠ some k) → a.tmps.getD k undef = a0.tmps.getD k undef) → I (fun j => decide (j < n)) (slotV ops a) w → wpList P ops Q (ops.toList.drop n) a w) :
    ∀ (fuel : Nat) (listed : Array Bool) (a : Act) (w : World), HeadInv .any ops n listed → leftH n listed + (ops.size - n) ≤ fuel → InvI P ops I a0 listed a w → wpAny P .any ops Q fuel listed a w := by
  intro fuel
  induction fuel with
  | zero => intro listed a w inv hl hI; omega
  | succ fuel ih =>
    intro listed a w inv hl hI
    by_cases h0 : ∃ i, i < n ∧ listed.getD i true = false
    · obtain ⟨i0, hi0, hu0⟩ := h0
      have hready : ∀ i ∈ Region.ready .any ops listed, i < n := fun i hi => by
        rcases Nat.lt_or_ge i n with h | h
        · exact h
        · exact absurd hi (tail_waits hs hc hn inv (n - i0) i0 rfl hi0 hu0 i h)
      have hne : Region.ready .any ops listed ≠ [] := fun hr => by
        have key : ∀ m, m ≤ n → ∀ i, i < m → listed.getD i true = true := by
          intro m
          induction m with
          | zero => intro _ i hi; omega
          | succ m ihm =>
            intro hm i hi
            by_cases him : i < m
            · exact ihm (by omega) i him
            · have hie : i = m := by omega
              subst hie
              cases hli : listed.getD i true with
              | true => rfl
              | false =>
                exfalso
                have hio : i < ops.size := by omega
                have : i ∈ Region.ready .any ops listed := mem_ready.2 ⟨hli, ops[i], Array.getElem?_eq_getElem hio, fun e he hbb => by
                  have hb3 := backW_at hback i ops[i] (by simp [hio]) e (by simpa using he) hbb
                  have h3 := ihm (by omega) e.on (by omega)
                  have hlt : e.on < listed.size := by rw [inv.size]; omega
                  simp [hlt] at h3 ⊢
                  exact h3⟩
                rw [hr] at this; cases this
        rw [key n (Nat.le_refl _) i0 hi0] at hu0
        cases hu0
      refine ⟨fun h => absurd h hne, fun i hi => ?_⟩
      have hin := hready i hi
      obtain ⟨h1, o, ho, hdone⟩ := mem_ready.1 hi
      have hlt : i < ops.size := (Array.getElem?_eq_some_iff.1 ho).1
      have hok : OkI P ops Q I a0 i o := by
        have := allI_at hall i o (by rw [List.getElem?_take, if_pos hin]; simpa using ho)
        rwa [Nat.zero_add] at this
      have hdst : o.dst = slotOf ops i := by unfold slotOf; rw [ho]; rfl
      have hlt2 : i < listed.size := by rw [inv.size]; exact hlt
      have hfa : FrameAt ops a0 a i := ⟨hI.fr, fun k hk => hI.early k fun j hj => by
        have hj2 := hj
        unfold slotOf at hj2
        cases hoj : ops[j]? with
        | none => rw [hoj] at hj2; cases hj2
        | some oj =>
          rw [hoj] at hj2
          obtain ⟨e, he, heq, hbb⟩ := hk j oj hoj hj2
          cases hlj : listed.getD j false with
          | false => rfl
          | true =>
            have h5 := hI.closed j oj hoj hlj e he hbb
            rw [heq] at h5
            simp [hlt2] at h1 h5
            rw [h5] at h1; cases h1⟩
      have hself : listed.getD i false = false := by simp [hlt2] at h1 ⊢; exact h1
      have hsi : Since ops (fun j => listed.getD j false) i := ⟨hself, fun j hj => by
        have : ops.size ≤ j := by simpa using hj
        simp [show listed.size ≤ j by rw [inv.size]; exact this], hI.closed, fun o' ho' e he hbb => by
        rw [ho] at ho'; injection ho' with ho'; subst ho'
        exact hdone e (by simpa using he) hbb⟩
      obtain ⟨hw, hno⟩ := hok a w _ hfa hI.inv hsi
      have go : ∀ v w', I (upd (fun j => listed.getD j false) i) (updV (slotV ops a) i (match slotOf ops i with | some _ => v | none => undef)) w' → wpAny P .any ops Q fuel (listed.setIfInBounds i true) (a.put (slotOf ops i) v) w' := fun v w' hv => by
        refine ih _ _ _ (inv.set hi hin) (by have := leftH_set hin h1; omega) ⟨hI.fr.put hb i v, fun k hk => ?_, fun j oj hoj hlj e he hbb => ?_, ?_⟩
        · have hne : slotOf ops i ≠ some k := fun h => by have := hk i h; simp [hlt2] at this
          have h6 := hI.early k fun j hj => by
            have h7 := hk j hj
            by_cases hij : i = j
            · subst hij; simp [hlt2] at h7
            · rwa [getD_set_ne false hij] at h7
          rw [← h6]
          cases hsl : slotOf ops i with
          | none => rfl
          | some d =>
            have hdk : d ≠ k := fun h => hne (by rw [hsl, h])
            simp [Act.put, Array.getElem?_setIfInBounds_ne hdk]
        · by_cases hij : i = j
          · subst hij
            rw [ho] at hoj; injection hoj with hoj; subst hoj
            have h8 := hdone e (by simpa using he) hbb
            by_cases hie : i = e.on
            · rw [← hie]; simp [hlt2]
            · rw [getD_set_ne false hie]; exact h8
          · rw [getD_set_ne false hij] at hlj
            have h8 := hI.closed j oj hoj hlj e he hbb
            by_cases hie : i = e.on
            · rw [← hie]; simp [hlt2]
            · rw [getD_set_ne false hie]; exact h8
        · have e1 : (fun j => (listed.setIfInBounds i true).getD j false) = upd (fun j => listed.getD j false) i := by
            funext j
            unfold upd
            by_cases hij : j = i
            · subst hij; rw [if_pos rfl]; simp [hlt2]
            · rw [if_neg hij, getD_set_ne false (fun h => hij h.symm)]
          have e2 : slotV ops (a.put (slotOf ops i) v) = updV (slotV ops a) i (match slotOf ops i with | some _ => v | none => undef) := by
            funext j
            unfold updV
            by_cases hij : j = i
            · subst hij
              rw [if_pos rfl]
              unfold slotV
              cases hsl : slotOf ops j with
              | none => rfl
              | some d =>
                have hd := slotOf_lt hb hsl
                rw [← hI.fr.size] at hd
                simp [Act.put, hd]
            · rw [if_neg hij, slotV_put_other hb (fun h => hij h.symm)]
          rw [e1, e2]; exact hv
      unfold wpOp
      rw [ho]
      simp only
      split
      · rename_i hwant
        refine .inl (Oper.wp_mono (fun a' w' h => ?_) (hw hwant))
        obtain ⟨v, rfl, hv⟩ := h
        rw [hdst] at hv ⊢
        exact go v w' hv
      · rename_i hwant
        rw [hdst]
        exact go undef w (by have := hno (by simpa using hwant); cases slotOf ops i <;> exact this)
    · have hall1 : ∀ i, i < n → listed.getD i true = true := fun i hi => by
        cases h : listed.getD i true with
        | true => rfl
        | false => exact absurd ⟨i, hi, h⟩ h0
      have hcan := headN_eq (Nat.le_of_lt hn) inv.size hall1 (fun i h1 h2 => inv.tail i h1 h2)
      have hfalse : ∀ i, i < n → listed.getD i false = true := fun i hi => by
        have h := hall1 i hi
        have hlt : i < listed.size := by rw [inv.size]; omega
        simp [hlt] at h ⊢
        exact h
      have hL := hend a w hI.fr (fun k hk => hI.early k fun j hj => by
        rcases Nat.lt_or_ge j n with h | h
        · exact absurd hj (hk j h)
        · rcases Nat.lt_or_ge j ops.size with h2 | h2
          · exact getD_both (inv.tail j h h2)
          · simp [show listed.size ≤ j by rw [inv.size]; exact h2]) (by
        have e : (fun j => listed.getD j false) = fun j => decide (j < n) := by
          funext j
          by_cases hj : j < n
          · rw [hfalse j hj, decide_eq_true hj]
          · rw [decide_eq_false hj]
            rcases Nat.lt_or_ge j ops.size with h2 | h2
            · exact getD_both (inv.tail j (by omega) h2)
            · simp [show listed.size ≤ j by rw [inv.size]; exact h2]
        have h := hI.inv
        rwa [e] at h)
      have hdl : (ops.toList.drop n).length = ops.size - n := by simp
      have := wpAny_of_seq (md := .any) (Q' := Q) (ops.toList.drop n) n listed a w (fun j => by simp [List.getElem?_drop]) (by rw [hdl, hcan]; exact hseq) hL
      rw [hdl] at this
      exact wpAny_le this (by omega)
theorem wp_region_inv_tail {id : Nat} {w : World} (n : Nat) (hm : P.follows .mixedOrders = true) (hb : apartB a0.tmps.size ops.toList = true) (hback : backW 0 ops.toList = true)
    (hs : Region.sinkB .any ops n = true) (hc : Region.chainB .any ops n = true) (hn : n < ops.size) (hseq : Region.seqB .any ops (ops.size - n) n (headN n ops.size) = true)
    (hI : ∀ vs, I (fun _ => false) vs { w with drawn := w.drawn + 1 }) (hall : AllI P ops Q I a0 0 (ops.toList.take n))
    (hend : ∀ vs w', I (fun j => decide (j < n)) vs w' → wpList P ops Q (ops.toList.drop n) (putAll vs 0 (ops.toList.take n) a0) w') : (Code.region id ops true).wp P Q a0 w := by
  have hrep : ∀ j, (Array.replicate ops.size false).getD j false = false := fun j => by by_cases h : j < ops.size <;> simp [h]
  refine wp_region_any hm (wpAny_inv_tail n hback hb hs hc hn hseq hall (fun a w' hfr hea hf => ?_) ops.size _ a0 _ ⟨by simp, fun j oj _ hj => ?_, fun t _ h2 => getD_in (by simpa using h2) (hrep t)⟩ (by
    have h1 : leftH n (Array.replicate ops.size false) ≤ n := by unfold leftH; exact Nat.le_trans (List.length_filter_le _ _) (by simp)
    omega) ⟨⟨rfl, rfl, fun _ _ => rfl⟩, fun _ _ => rfl, fun j o _ hj => ?_, ?_⟩)
  · have htl : (ops.toList.take n).length = n := by simp; omega
    have hget : ∀ i o, (ops.toList.take n)[i]? = some o → ops[i]? = some o ∧ i < n := fun i o h => by
      rw [List.getElem?_take] at h
      split at h
      · rename_i h2; exact ⟨by simpa using h, h2⟩
      · cases h
    have h1 := hend (slotV ops a) w' hf
    have h2 : putAll (slotV ops a) 0 (ops.toList.take n) a0 = a := by
      rw [putAll_congr (ops.toList.take n) 0 a0 a hfr.defers.symm hfr.size.symm fun t hno => (hea t fun j hj hsl => ?_).symm]
      · refine putAll_same _ 0 fun i o ho => ?_
        obtain ⟨ho2, hin⟩ := hget i o ho
        rw [Nat.zero_add]
        have hdst : o.dst = slotOf ops i := by unfold slotOf; rw [ho2]; rfl
        rw [hdst]
        unfold slotV
        cases hsl : slotOf ops i with
        | none => rfl
        | some d =>
          refine act_ext rfl (by simp [Act.put]) fun k => ?_
          by_cases he : d = k
          · subst he
            have hd := slotOf_lt hb hsl
            rw [← hfr.size] at hd
            simp [Act.put, hd]
          · simp [Act.put, Array.getElem?_setIfInBounds_ne he]
      · unfold slotOf at hsl
        cases ho : ops[j]? with
        | none => rw [ho] at hsl; cases hsl
        | some o =>
          rw [ho] at hsl
          have hmem : o ∈ ops.toList.take n := List.mem_of_getElem? (i := j) (by rw [List.getElem?_take, if_pos hj]; simpa using ho)
          exact hno o hmem hsl
    rwa [h2] at h1
  · rw [hrep] at hj; cases hj
  · rw [hrep] at hj; cases hj
  · have e : (fun j => (Array.replicate ops.size false).getD j false) = fun _ => false := funext hrep
    rw [e]; exact hI _
theorem opi_yields {i : Nat} {o : Oper} {a : Act} {w w' : World} {L : Nat → Bool} (v : Value) (h : (execOp a.eval o).run P w = .ok (.value v) w') (hi : I (upd L i) (updV (slotV ops a) i (match o.dst with | some _ => v | none => undef)) w') :
    o.wp P a w (PostI ops I L i o a) Q := by
  unfold Oper.wp
  rw [h]
  exact ⟨v, rfl, hi⟩
theorem opi_calls {i : Nat} {o : Oper} {a : Act} {w : World} {L : Nat → Bool} {f : FuncId} {args : Array Value} (h : (execOp a.eval o).run P w = .ok (.enter f args) w)
    (hc : Calls P f args w fun e w' => ∃ v, e = .returned v ∧ I (upd L i) (updV (slotV ops a) i (match o.dst with | some _ => v | none => undef)) w') :
    o.wp P a w (PostI ops I L i o a) Q := by
  unfold Oper.wp
  rw [h]
  refine hc.mono ?_
  rintro e w' ⟨v, rfl, hv⟩
  exact ⟨v, rfl, hv⟩
theorem opi_calls2 {i : Nat} {o : Oper} {a : Act} {w : World} {L : Nat → Bool} {f : FuncId} {args : Array Value}
    (hc : Calls P f args w fun e w' => ∃ v, e = .returned v ∧ I (upd L i) (updV (slotV ops a) i (match o.dst with | some _ => v | none => undef)) w') (h : (execOp a.eval o).run P w = .ok (.enter f args) w) :
    o.wp P a w (PostI ops I L i o a) Q := opi_calls h hc
end
end Go.Proofs.YtcaapbbbekggiaaGreatDoor

namespace Go.Proofs.YtcaapbbbekggiaaGreatDoor
open Go.ChangeShapes Go.WideShapes Go.ChangeAt Go.RowKit
set_option linter.unusedVariables false
set_option linter.unusedSimpArgs false
set_option maxRecDepth 100000
/-- Does a number begin here. -/
def isNum (l : List UInt8) : Bool := digitN (l.headD 0).toNat || ((l.headD 0).toNat == 45 && (decide (1 < l.length) && digitN ((l.drop 1).headD 0).toNat))
/-- A text's first token, and its bytes. -/
def firstT (s : ByteArray) : Option (Tok × Nat) := if isNum s.data.toList = true then numT (numF s.data.toList) else if smallN (s.data.toList.headD 0).toNat = true then wordT s else if ((s.data.toList.headD 0).toNat == 34) = true then quotedT s.data.toList else signIn s.data.toList signsL
theorem FirstAns.form {r : Option (Tok × Nat)} {w w' : World} {e : Ending} (h : FirstAns r w e w') : ∃ (t : Tok) (u : Nat), e = .returned (.tuple #[.agg #[.int .i64 t.kd, .int .i64 t.n, .int .i64 t.at_, .string t.tx], .int .i64 u]) ∧ Below w.heap.size w w' ∧ ∀ w0 w1 : World, Below w0.heap.size w0 w1 → FirstAns r w0 (.returned (.tuple #[.agg #[.int .i64 t.kd, .int .i64 t.n, .int .i64 t.at_, .string t.tx], .int .i64 u])) w1 := by
  cases r with
  | none =>
    obtain ⟨hb, he⟩ := h
    exact ⟨⟨0, 0, 0, ⟨#[]⟩⟩, 0, he, hb, fun w0 w1 h1 => ⟨h1, rfl⟩⟩
  | some p =>
    obtain ⟨t, u⟩ := p
    obtain ⟨hb, he⟩ := h
    exact ⟨t, u, he, hb, fun w0 w1 h1 => ⟨h1, rfl⟩⟩
set_option maxHeartbeats 8000000 in
theorem lfirst_any (s : ByteArray) (w : World) (h0 : 0 < s.size) (hs : s.size ≤ 35184372088832) :
    Calls Tryz.prog 65 #[.string s] w (FirstAns (firstT s) w) := by
  have HB0 := Lib.hid ((Below.refl w.heap.size w).alloc (Nat.le_refl _) (.cells #[.int .i64 0, .int .i64 0, .int .i64 0, .string ⟨#[]⟩] 96))
  have HK0 := Lib.hid (Blk.mk (heap_alloc_new w (.cells #[.int .i64 0, .int .i64 0, .int .i64 0, .string ⟨#[]⟩] 96)) : Blk _ w.heap.size 96 [.int .i64 0, .int .i64 0, .int .i64 0, .string ⟨#[]⟩])
  have hhd : s.data.toList.headD 0 = s[0]'h0 := by
    rw [List.headD_eq_head?_getD, List.head?_eq_getElem?, List.getElem?_eq_getElem (by simpa using h0)]; rfl
  have HF : Hid (firstT s = if isNum s.data.toList = true then numT (numF s.data.toList) else if smallN (s[0]'h0).toNat = true then wordT s else if ((s[0]'h0).toNat == 34) = true then quotedT s.data.toList else signIn s.data.toList signsL) := Lib.hid (by unfold firstT; rw [hhd])
  have HN : Hid (isNum s.data.toList = (digitN (s[0]'h0).toNat || ((s[0]'h0).toNat == 45 && (decide (1 < s.size) && digitN ((s.data.toList.drop 1).headD 0).toNat)))) := Lib.hid (by unfold isNum; rw [hhd]; simp)
  clear hhd
  obtain ⟨b2, hb2⟩ : ∃ b, w.heap.size = b := ⟨_, rfl⟩
  obtain ⟨W1, hW1⟩ : ∃ W, w.alloc (.cells #[.int .i64 0, .int .i64 0, .int .i64 0, .string ⟨#[]⟩] 96) = W := ⟨_, rfl⟩
  rw [hW1] at HB0 HK0
  rw [hb2] at HK0
  have HB2 := Lib.hid hb2; have HW1 := Lib.hid hW1
  have hb2le : w.heap.size ≤ b2 := by rw [hb2]; exact Nat.le_refl _
  clear hb2 hW1
  have hd0 := digit_any (s[0]'h0).toNat W1
  have hsm := small_any (s[0]'h0).toNat W1
  obtain ⟨d0, hd0e⟩ : ∃ d, digitN (s[0]'h0).toNat = d := ⟨_, rfl⟩
  obtain ⟨sm, hsme⟩ : ∃ d, smallN (s[0]'h0).toNat = d := ⟨_, rfl⟩
  rw [hd0e] at hd0 HN
  rw [hsme] at hsm HF
  have HD0 := Lib.hid hd0; have HSM := Lib.hid hsm
  clear hd0 hsm hd0e hsme
  go_enter Tryz.func65, Tryz.ntmps65
  go_upto_region 1 with fail
  rw [HW1.out, HB2.out]
  cases d0 with
  | true =>
    have HE := Lib.hid (show firstT s = numT (numF s.data.toList) by rw [HF.out, HN.out, Bool.true_or, if_pos rfl])
    go_wp2_with fail
    (with_reducible refine HD0.out.mono ?_); rintro e w' ⟨rfl, rfl⟩
    go_wp2_with fail
    (with_reducible refine (lnumber_any s _ h0 hs).mono ?_); rintro e w5 hfa
    obtain ⟨t, u, rfl, hb5, hall⟩ := hfa.form
    have HB := Lib.hid (HB0.out.trans (hb5.mono HB0.out.size))
    have HK := Lib.hid (HK0.out.below hb5 HK0.out.lt)
    have HALL := Lib.hid hall
    clear hfa hb5 hall
    have HBZ := Lib.hid (set4W_below HB.out hb2le (.int .i64 t.kd) (.int .i64 t.n) (.int .i64 t.at_) (.string t.tx))
    have HKZ := Lib.hid (set4W_blk HK.out (.int .i64 t.kd) (.int .i64 t.n) (.int .i64 t.at_) (.string t.tx))
    obtain ⟨f0, f1, f2, f3⟩ : w5.frozen? ⟨b2, 0, none⟩ = false ∧ w5.frozen? ⟨b2, 1, none⟩ = false ∧ w5.frozen? ⟨b2, 2, none⟩ = false ∧ w5.frozen? ⟨b2, 3, none⟩ = false := ⟨HK.out.frozen 0, HK.out.frozen 1, HK.out.frozen 2, HK.out.frozen 3⟩
    obtain ⟨c0, c1, c2, c3⟩ := blk_cells4 HK.out
    go_wp2_with fail
    obtain ⟨q0, q1, q2, q3⟩ := blk_cells4 HKZ.out
    unfold set4W at q0 q1 q2 q3 HBZ
    refine bodyPost_ret (v := .tuple #[.agg #[.int .i64 t.kd, .int .i64 t.n, .int .i64 t.at_, .string t.tx], .int .i64 u]) (by simp [results, Tryz.results65, go_sem, q0, q1, q2, q3]) rfl ?_
    rw [HE.out]
    exact HALL.out _ _ HBZ.out
  | false =>
    by_cases h45 : (s[0]'h0).toNat = 45
    · have t45 : (((s[0]'h0).toNat : Int) == 45) = true := by rw [h45]; rfl
      by_cases h1 : 1 < s.size
      · have hh1 : (s.data.toList.drop 1).headD 0 = s[1] := by
          rw [List.headD_eq_head?_getD, List.head?_eq_getElem?, List.getElem?_drop, List.getElem?_eq_getElem (by simpa using h1)]; rfl
        have hd1 := digit_any (s[1]).toNat W1
        obtain ⟨d1, hd1e⟩ : ∃ d, digitN (s[1]).toNat = d := ⟨_, rfl⟩
        rw [hd1e] at hd1
        have HD1 := Lib.hid hd1
        have HN1 := Lib.hid (show isNum s.data.toList = d1 by rw [HN.out, hh1, hd1e, h45, decide_eq_true h1]; rfl)
        have h1i : (1 : Int) < s.size := by omega
        clear hh1 hd1 hd1e h45 HN
        cases d1 with
        | true =>
          have HE := Lib.hid (show firstT s = numT (numF s.data.toList) by rw [HF.out, HN1.out, if_pos rfl])
          go_wp2_with fail
          (with_reducible refine HD0.out.mono ?_); rintro e w' ⟨rfl, rfl⟩
          go_wp2_with fail
          (with_reducible refine HD1.out.mono ?_); rintro e w' ⟨rfl, rfl⟩
          go_wp2_with fail
          (with_reducible refine (lnumber_any s _ h0 hs).mono ?_); rintro e w5 hfa
          obtain ⟨t, u, rfl, hb5, hall⟩ := hfa.form
          have HB := Lib.hid (HB0.out.trans (hb5.mono HB0.out.size))
          have HK := Lib.hid (HK0.out.below hb5 HK0.out.lt)
          have HALL := Lib.hid hall
          clear hfa hb5 hall
          have HBZ := Lib.hid (set4W_below HB.out hb2le (.int .i64 t.kd) (.int .i64 t.n) (.int .i64 t.at_) (.string t.tx))
          have HKZ := Lib.hid (set4W_blk HK.out (.int .i64 t.kd) (.int .i64 t.n) (.int .i64 t.at_) (.string t.tx))
          obtain ⟨f0, f1, f2, f3⟩ : w5.frozen? ⟨b2, 0, none⟩ = false ∧ w5.frozen? ⟨b2, 1, none⟩ = false ∧ w5.frozen? ⟨b2, 2, none⟩ = false ∧ w5.frozen? ⟨b2, 3, none⟩ = false := ⟨HK.out.frozen 0, HK.out.frozen 1, HK.out.frozen 2, HK.out.frozen 3⟩
          obtain ⟨c0, c1, c2, c3⟩ := blk_cells4 HK.out
          go_wp2_with fail
          obtain ⟨q0, q1, q2, q3⟩ := blk_cells4 HKZ.out
          unfold set4W at q0 q1 q2 q3 HBZ
          refine bodyPost_ret (v := .tuple #[.agg #[.int .i64 t.kd, .int .i64 t.n, .int .i64 t.at_, .string t.tx], .int .i64 u]) (by simp [results, Tryz.results65, go_sem, q0, q1, q2, q3]) rfl ?_
          rw [HE.out]
          exact HALL.out _ _ HBZ.out
        | false =>
          have HNU := HN1
          clear HN1
          cases sm with
          | true =>
            have HE := Lib.hid (show firstT s = wordT s by rw [HF.out, HNU.out, if_neg (by simp), if_pos rfl])
            go_wp2_with fail
            (with_reducible refine HD0.out.mono ?_); rintro e w' ⟨rfl, rfl⟩
            go_wp2_with fail
            (with_reducible refine HD1.out.mono ?_); rintro e w' ⟨rfl, rfl⟩
            go_wp2_with fail
            (with_reducible refine HSM.out.mono ?_); rintro e w' ⟨rfl, rfl⟩
            go_wp2_with fail
            (with_reducible refine (lword_any s _ h0 hs).mono ?_); rintro e w5 hfa
            obtain ⟨t, u, rfl, hb5, hall⟩ := hfa.form
            have HB := Lib.hid (HB0.out.trans (hb5.mono HB0.out.size))
            have HK := Lib.hid (HK0.out.below hb5 HK0.out.lt)
            have HALL := Lib.hid hall
            clear hfa hb5 hall
            have HBZ := Lib.hid (set4W_below HB.out hb2le (.int .i64 t.kd) (.int .i64 t.n) (.int .i64 t.at_) (.string t.tx))
            have HKZ := Lib.hid (set4W_blk HK.out (.int .i64 t.kd) (.int .i64 t.n) (.int .i64 t.at_) (.string t.tx))
            obtain ⟨f0, f1, f2, f3⟩ : w5.frozen? ⟨b2, 0, none⟩ = false ∧ w5.frozen? ⟨b2, 1, none⟩ = false ∧ w5.frozen? ⟨b2, 2, none⟩ = false ∧ w5.frozen? ⟨b2, 3, none⟩ = false := ⟨HK.out.frozen 0, HK.out.frozen 1, HK.out.frozen 2, HK.out.frozen 3⟩
            obtain ⟨c0, c1, c2, c3⟩ := blk_cells4 HK.out
            go_wp2_with fail
            obtain ⟨q0, q1, q2, q3⟩ := blk_cells4 HKZ.out
            unfold set4W at q0 q1 q2 q3 HBZ
            refine bodyPost_ret (v := .tuple #[.agg #[.int .i64 t.kd, .int .i64 t.n, .int .i64 t.at_, .string t.tx], .int .i64 u]) (by simp [results, Tryz.results65, go_sem, q0, q1, q2, q3]) rfl ?_
            rw [HE.out]
            exact HALL.out _ _ HBZ.out
          | false =>
            by_cases h34 : (s[0]'h0).toNat = 34
            · have HE := Lib.hid (show firstT s = quotedT s.data.toList by rw [HF.out, HNU.out, if_neg (by simp), if_neg (by simp), if_pos (by rw [h34]; rfl)])
              have t34 : (((s[0]'h0).toNat : Int) == 34) = true := by rw [h34]; rfl
              clear h34
              go_wp2_with fail
              (with_reducible refine HD0.out.mono ?_); rintro e w' ⟨rfl, rfl⟩
              go_wp2_with fail
              (with_reducible refine HD1.out.mono ?_); rintro e w' ⟨rfl, rfl⟩
              go_wp2_with fail
              (with_reducible refine HSM.out.mono ?_); rintro e w' ⟨rfl, rfl⟩
              go_wp2_with fail
              (with_reducible refine (lquoted_any s _ h0 hs).mono ?_); rintro e w5 hfa
              obtain ⟨t, u, rfl, hb5, hall⟩ := hfa.form
              have HB := Lib.hid (HB0.out.trans (hb5.mono HB0.out.size))
              have HK := Lib.hid (HK0.out.below hb5 HK0.out.lt)
              have HALL := Lib.hid hall
              clear hfa hb5 hall
              have HBZ := Lib.hid (set4W_below HB.out hb2le (.int .i64 t.kd) (.int .i64 t.n) (.int .i64 t.at_) (.string t.tx))
              have HKZ := Lib.hid (set4W_blk HK.out (.int .i64 t.kd) (.int .i64 t.n) (.int .i64 t.at_) (.string t.tx))
              obtain ⟨f0, f1, f2, f3⟩ : w5.frozen? ⟨b2, 0, none⟩ = false ∧ w5.frozen? ⟨b2, 1, none⟩ = false ∧ w5.frozen? ⟨b2, 2, none⟩ = false ∧ w5.frozen? ⟨b2, 3, none⟩ = false := ⟨HK.out.frozen 0, HK.out.frozen 1, HK.out.frozen 2, HK.out.frozen 3⟩
              obtain ⟨c0, c1, c2, c3⟩ := blk_cells4 HK.out
              go_wp2_with fail
              obtain ⟨q0, q1, q2, q3⟩ := blk_cells4 HKZ.out
              unfold set4W at q0 q1 q2 q3 HBZ
              refine bodyPost_ret (v := .tuple #[.agg #[.int .i64 t.kd, .int .i64 t.n, .int .i64 t.at_, .string t.tx], .int .i64 u]) (by simp [results, Tryz.results65, go_sem, q0, q1, q2, q3]) rfl ?_
              rw [HE.out]
              exact HALL.out _ _ HBZ.out
            · have HE := Lib.hid (show firstT s = signIn s.data.toList signsL by rw [HF.out, HNU.out, if_neg (by simp), if_neg (by simp), if_neg (by simpa using h34)])
              have t34 : (((s[0]'h0).toNat : Int) == 34) = false := by rw [beq_eq_false_iff_ne]; omega
              clear h34
              go_wp2_with fail
              (with_reducible refine HD0.out.mono ?_); rintro e w' ⟨rfl, rfl⟩
              go_wp2_with fail
              (with_reducible refine HD1.out.mono ?_); rintro e w' ⟨rfl, rfl⟩
              go_wp2_with fail
              (with_reducible refine HSM.out.mono ?_); rintro e w' ⟨rfl, rfl⟩
              go_wp2_with fail
              (with_reducible refine (lsign_any s _ hs).mono ?_); rintro e w5 hfa
              obtain ⟨t, u, rfl, hb5, hall⟩ := hfa.form
              have HB := Lib.hid (HB0.out.trans (hb5.mono HB0.out.size))
              have HK := Lib.hid (HK0.out.below hb5 HK0.out.lt)
              have HALL := Lib.hid hall
              clear hfa hb5 hall
              have HBZ := Lib.hid (set4W_below HB.out hb2le (.int .i64 t.kd) (.int .i64 t.n) (.int .i64 t.at_) (.string t.tx))
              have HKZ := Lib.hid (set4W_blk HK.out (.int .i64 t.kd) (.int .i64 t.n) (.int .i64 t.at_) (.string t.tx))
              obtain ⟨f0, f1, f2, f3⟩ : w5.frozen? ⟨b2, 0, none⟩ = false ∧ w5.frozen? ⟨b2, 1, none⟩ = false ∧ w5.frozen? ⟨b2, 2, none⟩ = false ∧ w5.frozen? ⟨b2, 3, none⟩ = false := ⟨HK.out.frozen 0, HK.out.frozen 1, HK.out.frozen 2, HK.out.frozen 3⟩
              obtain ⟨c0, c1, c2, c3⟩ := blk_cells4 HK.out
              go_wp2_with fail
              obtain ⟨q0, q1, q2, q3⟩ := blk_cells4 HKZ.out
              unfold set4W at q0 q1 q2 q3 HBZ
              refine bodyPost_ret (v := .tuple #[.agg #[.int .i64 t.kd, .int .i64 t.n, .int .i64 t.at_, .string t.tx], .int .i64 u]) (by simp [results, Tryz.results65, go_sem, q0, q1, q2, q3]) rfl ?_
              rw [HE.out]
              exact HALL.out _ _ HBZ.out
      · have HNU := Lib.hid (show isNum s.data.toList = false by rw [HN.out, decide_eq_false h1]; simp)
        have h1i : (s.size : Int) ≤ 1 := by omega
        clear h45 HN
        cases sm with
        | true =>
          have HE := Lib.hid (show firstT s = wordT s by rw [HF.out, HNU.out, if_neg (by simp), if_pos rfl])
          go_wp2_with fail
          (with_reducible refine HD0.out.mono ?_); rintro e w' ⟨rfl, rfl⟩
          go_wp2_with fail
          (with_reducible refine HSM.out.mono ?_); rintro e w' ⟨rfl, rfl⟩
          go_wp2_with fail
          (with_reducible refine (lword_any s _ h0 hs).mono ?_); rintro e w5 hfa
          obtain ⟨t, u, rfl, hb5, hall⟩ := hfa.form
          have HB := Lib.hid (HB0.out.trans (hb5.mono HB0.out.size))
          have HK := Lib.hid (HK0.out.below hb5 HK0.out.lt)
          have HALL := Lib.hid hall
          clear hfa hb5 hall
          have HBZ := Lib.hid (set4W_below HB.out hb2le (.int .i64 t.kd) (.int .i64 t.n) (.int .i64 t.at_) (.string t.tx))
          have HKZ := Lib.hid (set4W_blk HK.out (.int .i64 t.kd) (.int .i64 t.n) (.int .i64 t.at_) (.string t.tx))
          obtain ⟨f0, f1, f2, f3⟩ : w5.frozen? ⟨b2, 0, none⟩ = false ∧ w5.frozen? ⟨b2, 1, none⟩ = false ∧ w5.frozen? ⟨b2, 2, none⟩ = false ∧ w5.frozen? ⟨b2, 3, none⟩ = false := ⟨HK.out.frozen 0, HK.out.frozen 1, HK.out.frozen 2, HK.out.frozen 3⟩
          obtain ⟨c0, c1, c2, c3⟩ := blk_cells4 HK.out
          go_wp2_with fail
          obtain ⟨q0, q1, q2, q3⟩ := blk_cells4 HKZ.out
          unfold set4W at q0 q1 q2 q3 HBZ
          refine bodyPost_ret (v := .tuple #[.agg #[.int .i64 t.kd, .int .i64 t.n, .int .i64 t.at_, .string t.tx], .int .i64 u]) (by simp [results, Tryz.results65, go_sem, q0, q1, q2, q3]) rfl ?_
          rw [HE.out]
          exact HALL.out _ _ HBZ.out
        | false =>
          by_cases h34 : (s[0]'h0).toNat = 34
          · have HE := Lib.hid (show firstT s = quotedT s.data.toList by rw [HF.out, HNU.out, if_neg (by simp), if_neg (by simp), if_pos (by rw [h34]; rfl)])
            have t34 : (((s[0]'h0).toNat : Int) == 34) = true := by rw [h34]; rfl
            clear h34
            go_wp2_with fail
            (with_reducible refine HD0.out.mono ?_); rintro e w' ⟨rfl, rfl⟩
            go_wp2_with fail
            (with_reducible refine HSM.out.mono ?_); rintro e w' ⟨rfl, rfl⟩
            go_wp2_with fail
            (with_reducible refine (lquoted_any s _ h0 hs).mono ?_); rintro e w5 hfa
            obtain ⟨t, u, rfl, hb5, hall⟩ := hfa.form
            have HB := Lib.hid (HB0.out.trans (hb5.mono HB0.out.size))
            have HK := Lib.hid (HK0.out.below hb5 HK0.out.lt)
            have HALL := Lib.hid hall
            clear hfa hb5 hall
            have HBZ := Lib.hid (set4W_below HB.out hb2le (.int .i64 t.kd) (.int .i64 t.n) (.int .i64 t.at_) (.string t.tx))
            have HKZ := Lib.hid (set4W_blk HK.out (.int .i64 t.kd) (.int .i64 t.n) (.int .i64 t.at_) (.string t.tx))
            obtain ⟨f0, f1, f2, f3⟩ : w5.frozen? ⟨b2, 0, none⟩ = false ∧ w5.frozen? ⟨b2, 1, none⟩ = false ∧ w5.frozen? ⟨b2, 2, none⟩ = false ∧ w5.frozen? ⟨b2, 3, none⟩ = false := ⟨HK.out.frozen 0, HK.out.frozen 1, HK.out.frozen 2, HK.out.frozen 3⟩
            obtain ⟨c0, c1, c2, c3⟩ := blk_cells4 HK.out
            go_wp2_with fail
            obtain ⟨q0, q1, q2, q3⟩ := blk_cells4 HKZ.out
            unfold set4W at q0 q1 q2 q3 HBZ
            refine bodyPost_ret (v := .tuple #[.agg #[.int .i64 t.kd, .int .i64 t.n, .int .i64 t.at_, .string t.tx], .int .i64 u]) (by simp [results, Tryz.results65, go_sem, q0, q1, q2, q3]) rfl ?_
            rw [HE.out]
            exact HALL.out _ _ HBZ.out
          · have HE := Lib.hid (show firstT s = signIn s.data.toList signsL by rw [HF.out, HNU.out, if_neg (by simp), if_neg (by simp), if_neg (by simpa using h34)])
            have t34 : (((s[0]'h0).toNat : Int) == 34) = false := by rw [beq_eq_false_iff_ne]; omega
            clear h34
            go_wp2_with fail
            (with_reducible refine HD0.out.mono ?_); rintro e w' ⟨rfl, rfl⟩
            go_wp2_with fail
            (with_reducible refine HSM.out.mono ?_); rintro e w' ⟨rfl, rfl⟩
            go_wp2_with fail
            (with_reducible refine (lsign_any s _ hs).mono ?_); rintro e w5 hfa
            obtain ⟨t, u, rfl, hb5, hall⟩ := hfa.form
            have HB := Lib.hid (HB0.out.trans (hb5.mono HB0.out.size))
            have HK := Lib.hid (HK0.out.below hb5 HK0.out.lt)
            have HALL := Lib.hid hall
            clear hfa hb5 hall
            have HBZ := Lib.hid (set4W_below HB.out hb2le (.int .i64 t.kd) (.int .i64 t.n) (.int .i64 t.at_) (.string t.tx))
            have HKZ := Lib.hid (set4W_blk HK.out (.int .i64 t.kd) (.int .i64 t.n) (.int .i64 t.at_) (.string t.tx))
            obtain ⟨f0, f1, f2, f3⟩ : w5.frozen? ⟨b2, 0, none⟩ = false ∧ w5.frozen? ⟨b2, 1, none⟩ = false ∧ w5.frozen? ⟨b2, 2, none⟩ = false ∧ w5.frozen? ⟨b2, 3, none⟩ = false := ⟨HK.out.frozen 0, HK.out.frozen 1, HK.out.frozen 2, HK.out.frozen 3⟩
            obtain ⟨c0, c1, c2, c3⟩ := blk_cells4 HK.out
            go_wp2_with fail
            obtain ⟨q0, q1, q2, q3⟩ := blk_cells4 HKZ.out
            unfold set4W at q0 q1 q2 q3 HBZ
            refine bodyPost_ret (v := .tuple #[.agg #[.int .i64 t.kd, .int .i64 t.n, .int .i64 t.at_, .string t.tx], .int .i64 u]) (by simp [results, Tryz.results65, go_sem, q0, q1, q2, q3]) rfl ?_
            rw [HE.out]
            exact HALL.out _ _ HBZ.out
    · have t45 : (((s[0]'h0).toNat : Int) == 45) = false := by rw [beq_eq_false_iff_ne]; omega
      have HNU := Lib.hid (show isNum s.data.toList = false by rw [HN.out, beq_eq_false_iff_ne.2 h45]; rfl)
      clear h45 HN
      cases sm with
      | true =>
        have HE := Lib.hid (show firstT s = wordT s by rw [HF.out, HNU.out, if_neg (by simp), if_pos rfl])
        go_wp2_with fail
        (with_reducible refine HD0.out.mono ?_); rintro e w' ⟨rfl, rfl⟩
        go_wp2_with fail
        (with_reducible refine HSM.out.mono ?_); rintro e w' ⟨rfl, rfl⟩
        go_wp2_with fail
        (with_reducible refine (lword_any s _ h0 hs).mono ?_); rintro e w5 hfa
        obtain ⟨t, u, rfl, hb5, hall⟩ := hfa.form
        have HB := Lib.hid (HB0.out.trans (hb5.mono HB0.out.size))
        have HK := Lib.hid (HK0.out.below hb5 HK0.out.lt)
        have HALL := Lib.hid hall
        clear hfa hb5 hall
        have HBZ := Lib.hid (set4W_below HB.out hb2le (.int .i64 t.kd) (.int .i64 t.n) (.int .i64 t.at_) (.string t.tx))
        have HKZ := Lib.hid (set4W_blk HK.out (.int .i64 t.kd) (.int .i64 t.n) (.int .i64 t.at_) (.string t.tx))
        obtain ⟨f0, f1, f2, f3⟩ : w5.frozen? ⟨b2, 0, none⟩ = false ∧ w5.frozen? ⟨b2, 1, none⟩ = false ∧ w5.frozen? ⟨b2, 2, none⟩ = false ∧ w5.frozen? ⟨b2, 3, none⟩ = false := ⟨HK.out.frozen 0, HK.out.frozen 1, HK.out.frozen 2, HK.out.frozen 3⟩
        obtain ⟨c0, c1, c2, c3⟩ := blk_cells4 HK.out
        go_wp2_with fail
        obtain ⟨q0, q1, q2, q3⟩ := blk_cells4 HKZ.out
        unfold set4W at q0 q1 q2 q3 HBZ
        refine bodyPost_ret (v := .tuple #[.agg #[.int .i64 t.kd, .int .i64 t.n, .int .i64 t.at_, .string t.tx], .int .i64 u]) (by simp [results, Tryz.results65, go_sem, q0, q1, q2, q3]) rfl ?_
        rw [HE.out]
        exact HALL.out _ _ HBZ.out
      | false =>
        by_cases h34 : (s[0]'h0).toNat = 34
        · have HE := Lib.hid (show firstT s = quotedT s.data.toList by rw [HF.out, HNU.out, if_neg (by simp), if_neg (by simp), if_pos (by rw [h34]; rfl)])
          have t34 : (((s[0]'h0).toNat : Int) == 34) = true := by rw [h34]; rfl
          clear h34
          go_wp2_with fail
          (with_reducible refine HD0.out.mono ?_); rintro e w' ⟨rfl, rfl⟩
          go_wp2_with fail
          (with_reducible refine HSM.out.mono ?_); rintro e w' ⟨rfl, rfl⟩
          go_wp2_with fail
          (with_reducible refine (lquoted_any s _ h0 hs).mono ?_); rintro e w5 hfa
          obtain ⟨t, u, rfl, hb5, hall⟩ := hfa.form
          have HB := Lib.hid (HB0.out.trans (hb5.mono HB0.out.size))
          have HK := Lib.hid (HK0.out.below hb5 HK0.out.lt)
          have HALL := Lib.hid hall
          clear hfa hb5 hall
          have HBZ := Lib.hid (set4W_below HB.out hb2le (.int .i64 t.kd) (.int .i64 t.n) (.int .i64 t.at_) (.string t.tx))
          have HKZ := Lib.hid (set4W_blk HK.out (.int .i64 t.kd) (.int .i64 t.n) (.int .i64 t.at_) (.string t.tx))
          obtain ⟨f0, f1, f2, f3⟩ : w5.frozen? ⟨b2, 0, none⟩ = false ∧ w5.frozen? ⟨b2, 1, none⟩ = false ∧ w5.frozen? ⟨b2, 2, none⟩ = false ∧ w5.frozen? ⟨b2, 3, none⟩ = false := ⟨HK.out.frozen 0, HK.out.frozen 1, HK.out.frozen 2, HK.out.frozen 3⟩
          obtain ⟨c0, c1, c2, c3⟩ := blk_cells4 HK.out
          go_wp2_with fail
          obtain ⟨q0, q1, q2, q3⟩ := blk_cells4 HKZ.out
          unfold set4W at q0 q1 q2 q3 HBZ
          refine bodyPost_ret (v := .tuple #[.agg #[.int .i64 t.kd, .int .i64 t.n, .int .i64 t.at_, .string t.tx], .int .i64 u]) (by simp [results, Tryz.results65, go_sem, q0, q1, q2, q3]) rfl ?_
          rw [HE.out]
          exact HALL.out _ _ HBZ.out
        · have HE := Lib.hid (show firstT s = signIn s.data.toList signsL by rw [HF.out, HNU.out, if_neg (by simp), if_neg (by simp), if_neg (by simpa using h34)])
          have t34 : (((s[0]'h0).toNat : Int) == 34) = false := by rw [beq_eq_false_iff_ne]; omega
          clear h34
          go_wp2_with fail
          (with_reducible refine HD0.out.mono ?_); rintro e w' ⟨rfl, rfl⟩
          go_wp2_with fail
          (with_reducible refine HSM.out.mono ?_); rintro e w' ⟨rfl, rfl⟩
          go_wp2_with fail
          (with_reducible refine (lsign_any s _ hs).mono ?_); rintro e w5 hfa
          obtain ⟨t, u, rfl, hb5, hall⟩ := hfa.form
          have HB := Lib.hid (HB0.out.trans (hb5.mono HB0.out.size))
          have HK := Lib.hid (HK0.out.below hb5 HK0.out.lt)
          have HALL := Lib.hid hall
          clear hfa hb5 hall
          have HBZ := Lib.hid (set4W_below HB.out hb2le (.int .i64 t.kd) (.int .i64 t.n) (.int .i64 t.at_) (.string t.tx))
          have HKZ := Lib.hid (set4W_blk HK.out (.int .i64 t.kd) (.int .i64 t.n) (.int .i64 t.at_) (.string t.tx))
          obtain ⟨f0, f1, f2, f3⟩ : w5.frozen? ⟨b2, 0, none⟩ = false ∧ w5.frozen? ⟨b2, 1, none⟩ = false ∧ w5.frozen? ⟨b2, 2, none⟩ = false ∧ w5.frozen? ⟨b2, 3, none⟩ = false := ⟨HK.out.frozen 0, HK.out.frozen 1, HK.out.frozen 2, HK.out.frozen 3⟩
          obtain ⟨c0, c1, c2, c3⟩ := blk_cells4 HK.out
          go_wp2_with fail
          obtain ⟨q0, q1, q2, q3⟩ := blk_cells4 HKZ.out
          unfold set4W at q0 q1 q2 q3 HBZ
          refine bodyPost_ret (v := .tuple #[.agg #[.int .i64 t.kd, .int .i64 t.n, .int .i64 t.at_, .string t.tx], .int .i64 u]) (by simp [results, Tryz.results65, go_sem, q0, q1, q2, q3]) rfl ?_
          rw [HE.out]
          exact HALL.out _ _ HBZ.out
end Go.Proofs.YtcaapbbbekggiaaGreatDoor

namespace Go.Proofs.YtcaapbbbekggiaaGreatDoor
open Go.ChangeShapes Go.WideShapes Go.ChangeAt Go.RowKit
set_option linter.unusedVariables false
set_option linter.unusedSimpArgs false
set_option maxRecDepth 100000
theorem Tryz.infoTok : (Tryz.prog.info? 96).map (fun i => (i.zero, i.size, i.bytes)) = some (some (.agg #[.int .i64 0, .int .i64 0, .int .i64 0, .string ⟨#[]⟩]), 4, 40) := by kernel_rfl
/-- Tokens as cells. -/
def tcells (l : List Tok) : List Value := l.flatMap fun t => [.int .i64 t.kd, .int .i64 t.n, .int .i64 t.at_, .string t.tx]
theorem tcells_append (l m : List Tok) : tcells (l ++ m) = tcells l ++ tcells m := by simp [tcells]
theorem tcells_length (l : List Tok) : (tcells l).length = l.length * 4 := by
  induction l with
  | nil => rfl
  | cons x l ih => simp only [tcells, List.flatMap_cons, List.length_append, List.length_cons, List.length_nil] at ih ⊢; omega
/-- Tokens cut off a text. -/
def tokGo : Nat → List UInt8 → Nat → List Tok → List Tok × Nat
  | 0, _, a, acc => (acc, a)
  | f + 1, l, a, acc => match l with
    | [] => (acc, a)
    | c :: r => if (c.toNat == 32 || c.toNat == 10) = true then tokGo f r (a + 1) acc else if acc.length = 400 then (acc, a) else
      match firstT ⟨(c :: r).toArray⟩ with
      | none => (acc, a)
      | some (t, u) => if u = 0 then (acc, a) else tokGo f ((c :: r).drop u) (a + u) (acc ++ [⟨t.kd, t.n, a, t.tx⟩])
theorem tokGo_fuel : ∀ (f f' : Nat) (l : List UInt8) (a : Nat) (acc : List Tok), l.length < f → l.length < f' → tokGo f l a acc = tokGo f' l a acc
  | 0, _, _, _, _, h, _ => by omega
  | _, 0, _, _, _, _, h => by omega
  | f + 1, f' + 1, [], a, acc, _, _ => rfl
  | f + 1, f' + 1, c :: r, a, acc, h, h' => by
    rw [List.length_cons] at h h'
    unfold tokGo
    simp only
    split
    · exact tokGo_fuel f f' r _ _ (by omega) (by omega)
    · split
      · rfl
      · split
        · rfl
        · next t u _ =>
          split
          · rfl
          · exact tokGo_fuel f f' _ _ _ (by rw [List.length_drop, List.length_cons]; omega) (by rw [List.length_drop, List.length_cons]; omega)
def tokF (l : List UInt8) : List Tok × Nat := tokGo (l.length + 1) l 0 []
/-- The state at a byte. -/
def tokAt (l : List UInt8) (a : Nat) (acc : List Tok) : List Tok × Nat := tokGo (l.length - a + 1) (l.drop a) a acc
theorem tokAt_end {l : List UInt8} {a : Nat} {acc : List Tok} (h : l.length ≤ a) : tokAt l a acc = (acc, a) := by
  unfold tokAt; rw [List.drop_eq_nil_of_le h]; rfl
theorem tokAt_blank {l : List UInt8} {a : Nat} {acc : List Tok} (h : a < l.length) (hb : ((l[a]).toNat == 32 || (l[a]).toNat == 10) = true) : tokAt l a acc = tokAt l (a + 1) acc := by
  unfold tokAt
  rw [List.drop_eq_getElem_cons h]
  conv => lhs; unfold tokGo
  simp only
  rw [if_pos hb]
  exact tokGo_fuel _ _ _ _ _ (by rw [List.length_drop]; omega) (by rw [List.length_drop]; omega)
theorem tokAt_full {l : List UInt8} {a : Nat} {acc : List Tok} (h : a < l.length) (hb : ((l[a]).toNat == 32 || (l[a]).toNat == 10) = false) (h4 : acc.length = 400) : tokAt l a acc = (acc, a) := by
  unfold tokAt
  rw [List.drop_eq_getElem_cons h]
  unfold tokGo
  simp only
  rw [if_neg (by rw [hb]; simp), if_pos h4]
theorem tokAt_none {l : List UInt8} {a : Nat} {acc : List Tok} (h : a < l.length) (hb : ((l[a]).toNat == 32 || (l[a]).toNat == 10) = false) (h4 : acc.length ≠ 400) (hf : ∀ t u, firstT ⟨(l.drop a).toArray⟩ = some (t, u) → u = 0) : tokAt l a acc = (acc, a) := by
  unfold tokAt
  rw [List.drop_eq_getElem_cons h] at hf ⊢
  unfold tokGo
  simp only
  rw [if_neg (by rw [hb]; simp), if_neg h4]
  split
  · rfl
  · next t u e => rw [if_pos (hf t u e)]
theorem tokAt_some {l : List UInt8} {a : Nat} {acc : List Tok} {t : Tok} {u : Nat} (h : a < l.length) (hb : ((l[a]).toNat == 32 || (l[a]).toNat == 10) = false) (h4 : acc.length ≠ 400) (hf : firstT ⟨(l.drop a).toArray⟩ = some (t, u)) (hu : u ≠ 0) : tokAt l a acc = tokAt l (a + u) (acc ++ [⟨t.kd, t.n, a, t.tx⟩]) := by
  unfold tokAt
  rw [List.drop_eq_getElem_cons h] at hf ⊢
  conv => lhs; unfold tokGo
  simp only
  rw [if_neg (by rw [hb]; simp), if_neg h4, hf]
  simp only
  rw [if_neg hu]
  have e : (l[a] :: l.drop (a + 1)).drop u = l.drop (a + u) := by rw [← List.drop_eq_getElem_cons h, List.drop_drop]
  rw [e]
  exact tokGo_fuel _ _ _ _ _ (by rw [List.length_drop]; omega) (by rw [List.length_drop]; omega)
theorem numAt_le : ∀ (l : List UInt8) (k : Nat) (n m : Int) (j : Nat), numAt k n l = some (m, j) → j ≤ k + l.length
  | [], k, n, m, j, h => by rw [numAt_end] at h; injection h with h; injection h with _ h; rw [← h]; exact Nat.le_refl _
  | c :: r, k, n, m, j, h => by
    rw [List.length_cons]
    by_cases hd : digitN c.toNat = true
    · by_cases ho : n < (-9223372036854775808 + ((c.toNat : Int) - 48)).tdiv 10
      · rw [numAt_over hd ho] at h; cases h
      · rw [numAt_next hd ho] at h
        have := numAt_le r (k + 1) _ m j h
        omega
    · rw [numAt_stop (by simpa using hd)] at h; injection h with h; injection h with _ h; omega
theorem hasPrefix_le {l p : List UInt8} (h : Lib.hasPrefix l p = true) : p.length ≤ l.length := (List.isPrefixOf_iff_prefix.1 h).length_le
theorem spanW_le (l : List UInt8) : spanW l ≤ l.length := by unfold spanW; exact (List.takeWhile_sublist _).length_le
theorem signIn_le {l : List UInt8} : ∀ {L : List ByteArray} {t : Tok} {u : Nat}, signIn l L = some (t, u) → u ≤ l.length
  | [], _, _, h => by cases h
  | x :: r, t, u, h => by
    unfold signIn at h
    split at h
    · next hp =>
      injection h with h; injection h with _ h
      have h2 := hasPrefix_le hp
      rw [← h]
      simpa using h2
    · exact signIn_le h
theorem firstT_le {s : ByteArray} {t : Tok} {u : Nat} (h0 : 0 < s.size) (h : firstT s = some (t, u)) : u ≤ s.size := by
  have hl : s.data.toList.length = s.size := by simp
  unfold firstT at h
  split at h
  · unfold numT at h
    rw [Option.map_eq_some_iff] at h
    obtain ⟨⟨n, j⟩, hn, he⟩ := h
    injection he with _ he
    rw [← he]
    unfold numF at hn
    split at hn
    · have := numAt_le _ _ _ _ _ hn
      rw [List.length_drop, hl] at this
      show j ≤ s.size
      omega
    · split at hn
      · cases hn
      · next n2 u2 h2 =>
        split at hn
        · cases hn
        · injection hn with hn; injection hn with _ hn
          have := numAt_le _ _ _ _ _ h2
          show j ≤ s.size
          omega
  · split at h
    · unfold wordT at h
      split at h
      · cases h
      · injection h with h; injection h with _ h
        have := spanW_le (s.data.toList.drop 1)
        rw [List.length_drop, hl] at this
        omega
    · split at h
      · unfold quotedT at h
        rw [Option.map_eq_some_iff] at h
        obtain ⟨p, _, he⟩ := h
        injection he with _ he
        omega
      · have := signIn_le h
        omega
/-- What Tokens answers. -/
def TokAns (r : List Tok × Nat) (n : Nat) (w : World) (e : Ending) (w' : World) : Prop :=
  if r.2 < n then e = .returned (.tuple #[.slice none 0 0, .int .i64 r.2, .int .i64 1]) ∧ Below w.heap.size w w'
  else ∃ A c, e = .returned (.tuple #[.slice A r.1.length c, .int .i64 0, .int .i64 0]) ∧ w'.ownsRow w.heap.size 96 4 (.slice A r.1.length c) r.1.length (tcells r.1) ∧ Below w.heap.size w w' ∧ r.1.length ≤ c ∧ c ≤ 9223372036854775807
set_option maxHeartbeats 8000000 in
theorem tokens_any (s : ByteArray) (w : World) (hs : s.size ≤ 35184372088832) :
    Calls Tryz.prog 51 #[.string s] w (TokAns (tokF s.data.toList) s.size w) := by
  obtain ⟨i0, hi0, hz0, hz1, hz2⟩ := info_parts Tryz.infoTok
  have HRS := Lib.hid (show s.data.toList.length = s.size by simp)
  obtain ⟨r, hr⟩ : ∃ r, s.data.toList = r := ⟨_, rfl⟩
  rw [hr] at HRS
  rw [hr]
  have HR := Lib.hid hr
  obtain ⟨tot, htot⟩ : ∃ tot, tokF r = tot := ⟨_, rfl⟩
  rw [htot]
  have HT0 := Lib.hid (show tot = tokAt r 0 [] from htot.symm)
  clear hr htot
  go_enter Tryz.func51, Tryz.ntmps51
  go_wp2_with fail
  go_step3
  go_wp2_with fail
  go_step3
  go_upto_block 0 with fail
  go_cut [5, 6] from 9 to 47 (fun x5 x6 wx => ∃ (a : Nat) (toks : List Tok) (A : Option Addr) (c : Nat), x6 = .int .i64 a ∧ x5 = .slice A toks.length c ∧ tot = (toks, a) ∧ a ≤ s.size ∧ wx.ownsRow w.heap.size 96 4 (.slice A toks.length c) toks.length (tcells toks) ∧ Below w.heap.size w wx)
  case first =>
    go_wp2_with fail
    go_loopg [5, 6] s.size (fun g x5 x6 wr => ∃ (a : Nat) (toks : List Tok) (A : Option Addr) (c : Nat), a + g = s.size ∧ x6 = .int .i64 a ∧ x5 = .slice A toks.length c ∧ tot = tokAt r a toks ∧ toks.length ≤ 400 ∧ wr.ownsRow w.heap.size 96 4 (.slice A toks.length c) toks.length (tcells toks) ∧ Below w.heap.size w wr)
    case atStart => exact ⟨0, [], none, 0, by omega, rfl, rfl, HT0.out, by simp, own_nil _ _ _ _, Below.refl _ _⟩
    case round =>
      obtain ⟨a, toks, A, c, hag, rfl, rfl, htk, htl, hown, hbel⟩ := hrel
      have HT := Lib.hid htk; have HO := Lib.hid hown; have HB := Lib.hid hbel
      have hws := hbel.size
      clear htk hown hbel HT0
      cases gk with
      | zero =>
        have has : a = s.size := by omega
        have HE := Lib.hid (show tot = (toks, a) by rw [HT.out]; exact tokAt_end (by rw [HRS.out]; omega))
        have has2 : (s.size : Int) ≤ a := by omega
        have hale : a ≤ s.size := by omega
        clear has
        go_wp2_with fail
        go_meet
        exact ⟨a, toks, A, c, rfl, rfl, HE.out, hale, HO.out, HB.out⟩
      | succ g =>
        have hlt : a < s.size := by omega
        have hlr : a < r.length := by rw [HRS.out]; exact hlt
        have hale : a ≤ s.size := by omega
        have HG : Hid (s[a] = r[a]) := Lib.hid (by have := HR.out; subst this; rfl)
        by_cases h32 : (s[a]).toNat = 32
        · have t1 : (((s[a]).toNat : Int) == 32) = true := by rw [h32]; rfl
          have HN := Lib.hid (show tot = tokAt r (a + 1) toks by rw [HT.out]; exact tokAt_blank hlr (by rw [← HG.out, h32]; rfl))
          clear h32 HT
          go_wp2_with fail
          go_roundg g
          case measure => omega
          case rel => exact ⟨a + 1, toks, A, c, by omega, by go_num, rfl, HN.out, htl, HO.out, HB.out⟩
        · have t1 : (((s[a]).toNat : Int) == 32) = false := by rw [beq_eq_false_iff_ne]; omega
          by_cases h10 : (s[a]).toNat = 10
          · have t2 : (((s[a]).toNat : Int) == 10) = true := by rw [h10]; rfl
            have HN := Lib.hid (show tot = tokAt r (a + 1) toks by rw [HT.out]; exact tokAt_blank hlr (by rw [← HG.out, h10]; rfl))
            clear h10 h32 HT
            go_wp2_with fail
            go_roundg g
            case measure => omega
            case rel => exact ⟨a + 1, toks, A, c, by omega, by go_num, rfl, HN.out, htl, HO.out, HB.out⟩
          · have t2 : (((s[a]).toNat : Int) == 10) = false := by rw [beq_eq_false_iff_ne]; omega
            have HNB := Lib.hid (show ((r[a]).toNat == 32 || (r[a]).toNat == 10) = false by rw [← HG.out, beq_eq_false_iff_ne.2 h32, beq_eq_false_iff_ne.2 h10]; rfl)
            clear h10 h32
            by_cases h4 : toks.length = 400
            · have HE := Lib.hid (show tot = (toks, a) by rw [HT.out]; exact tokAt_full hlr HNB.out h4)
              have t3 : ((toks.length : Int) == 400) = true := by rw [h4]; rfl
              clear h4 HT
              go_wp2_with fail
              go_meet
              exact ⟨a, toks, A, c, rfl, rfl, HE.out, hale, HO.out, HB.out⟩
            · have t3 : ((toks.length : Int) == 400) = false := by rw [beq_eq_false_iff_ne]; omega
              have htl2 : toks.length < 400 := by omega
              have HNF := Lib.hid h4
              clear h4
              obtain ⟨S, hS⟩ : ∃ S, s.extract a s.size = S := ⟨_, rfl⟩
              have hSx : S = ⟨(r.drop a).toArray⟩ := by rw [← hS, Lib.Pa.extract_from]; congr 1; have := HR.out; rw [← this]
              have hSs : S.size = s.size - a := by rw [hSx]; show (r.drop a).toArray.size = _; rw [List.size_toArray, List.length_drop, HRS.out]
              have HFA := Lib.hid (lfirst_any S wr (by omega) (by omega))
              have HSX := Lib.hid hSx
              have hSs2 : (⟨(r.drop a).toArray⟩ : ByteArray).size = s.size - a := by rw [← hSx]; exact hSs
              have HS2 := Lib.hid hSs2
              have z1 : (0 : Int) ≤ a := by omega
              clear hSx hSs hSs2
              clear hale z1
              have z1 : (0 : Int) ≤ a := by omega
              have hale : a ≤ s.size := by omega
              go_wp2_with fail
              (with_reducible refine HFA.out.mono ?_); rintro e wq hfa
              obtain ⟨ft, hft⟩ : ∃ f, firstT S = f := ⟨_, rfl⟩
              rw [hft] at hfa
              rw [HSX.out] at hft
              clear HFA hS HSX
              cases ft with
              | none =>
                obtain ⟨hbq, rfl⟩ := hfa
                have HO2 := Lib.hid ((own_below HO.out hbq (Nat.le_refl _)).alloc (.cells #[.int .i64 0, .int .i64 0, .int .i64 0, .string ⟨#[]⟩] 96))
                have HB2 := Lib.hid ((HB.out.trans (hbq.mono hws)).alloc (Nat.le_trans hws hbq.size) (.cells #[.int .i64 0, .int .i64 0, .int .i64 0, .string ⟨#[]⟩] 96))
                have HE := Lib.hid (show tot = (toks, a) by rw [HT.out]; exact tokAt_none hlr HNB.out HNF.out (fun t u e => by rw [hft] at e; cases e))
                clear HO HB HT hbq hft
                go_wp2_with fail
                go_meet
                exact ⟨a, toks, A, c, rfl, rfl, HE.out, hale, HO2.out, HB2.out⟩
              | some p =>
                obtain ⟨⟨tk, tn, ta, tt⟩, u⟩ := p
                obtain ⟨hbq, rfl⟩ := hfa
                by_cases hu : u = 0
                · have tu : ((u : Int) == 0) = true := by rw [hu]; rfl
                  have HU := Lib.hid hu
                  clear hu
                  have HO2 := Lib.hid ((own_below HO.out hbq (Nat.le_refl _)).alloc (.cells #[.int .i64 tk, .int .i64 tn, .int .i64 ta, .string tt] 96))
                  have HB2 := Lib.hid ((HB.out.trans (hbq.mono hws)).alloc (Nat.le_trans hws hbq.size) (.cells #[.int .i64 tk, .int .i64 tn, .int .i64 ta, .string tt] 96))
                  have HE := Lib.hid (show tot = (toks, a) by rw [HT.out]; exact tokAt_none hlr HNB.out HNF.out (fun t u2 e => by rw [hft] at e; injection e with e; injection e with _ e; rw [← e]; exact HU.out))
                  clear HO HB HT hbq hft
                  go_wp2_with fail
                  go_meet
                  exact ⟨a, toks, A, c, rfl, rfl, HE.out, hale, HO2.out, HB2.out⟩
                · have tu : ((u : Int) == 0) = false := by rw [beq_eq_false_iff_ne]; omega
                  have HN := Lib.hid (show tot = tokAt r (a + u) (toks ++ [⟨tk, tn, a, tt⟩]) by rw [HT.out]; exact tokAt_some hlr HNB.out HNF.out hft hu)
                  have HO2 := Lib.hid (own_below (own_below HO.out hbq (Nat.le_refl _)) ((Below.refl wq.heap.size wq).alloc (Nat.le_refl _) (.cells #[.int .i64 tk, .int .i64 tn, .int .i64 ta, .string tt] 96)) (Nat.le_refl _))
                  have HB2 := Lib.hid ((HB.out.trans (hbq.mono hws)).alloc (Nat.le_trans hws hbq.size) (.cells #[.int .i64 tk, .int .i64 tn, .int .i64 ta, .string tt] 96))
                  have HK2 := Lib.hid (Blk.mk (heap_alloc_new wq (.cells #[.int .i64 tk, .int .i64 tn, .int .i64 ta, .string tt] 96)) : Blk _ wq.heap.size 96 [.int .i64 tk, .int .i64 tn, .int .i64 ta, .string tt])
                  have hbt : w.heap.size ≤ wq.heap.size := Nat.le_trans hws hbq.size
                  have HOL := Lib.hid (fun g hg => ((own_below HO.out hbq (Nat.le_refl _)).lt g hg).2)
                  have HU0 := Lib.hid (show 0 < u by omega)
                  have hua := firstT_le (by rw [HS2.out]; omega) hft
                  rw [HS2.out] at hua
                  clear HO HB HT hbq hft hu
                  obtain ⟨bt, hbtE⟩ : ∃ b, wq.heap.size = b := ⟨_, rfl⟩
                  obtain ⟨W2, hW2⟩ : ∃ W, wq.alloc (.cells #[.int .i64 tk, .int .i64 tn, .int .i64 ta, .string tt] 96) = W := ⟨_, rfl⟩
                  rw [hW2] at HO2 HB2 HK2
                  rw [hbtE] at HK2 HOL hbt
                  have HW2 := Lib.hid hW2; have HBT := Lib.hid hbtE
                  clear hW2 hbtE
                  have k2 := HK2.out.cell 2
                  simp only [List.getElem?_cons_zero, List.getElem?_cons_succ] at k2
                  have f2 := HK2.out.frozen 2
                  have HK3 := Lib.hid (HK2.out.set 2 (.int .i64 a))
                  have HO3 := Lib.hid (own_grown HO2.out (only_setCell (World.grownBy.refl W2 (some bt)) (p := ⟨bt, 2, none⟩) (.inl rfl) (.int .i64 a)) (fun g hg e => by injection e with e; have := HOL.out g hg; omega))
                  have HB3 := Lib.hid (HB2.out.setCell (p := ⟨bt, 2, none⟩) hbt (.int .i64 a))
                  go_upto_region 9 with fail
                  rw [HW2.out, HBT.out]
                  clear HW2 HBT HO2 HB2
                  go_upto_region 10 with fail
                  generalize W2.setCell ⟨bt, 2, none⟩ (.int .i64 a) = W3 at *
                  clear k2 f2 HK2 HOL
                  obtain ⟨q0, q1, q2, q3⟩ : W3.cell? ⟨bt, 0, none⟩ = some (.int .i64 tk) ∧ W3.cell? ⟨bt, 1, none⟩ = some (.int .i64 tn) ∧ W3.cell? ⟨bt, 2, none⟩ = some (.int .i64 a) ∧ W3.cell? ⟨bt, 3, none⟩ = some (.string tt) := ⟨HK3.out.cell 0, HK3.out.cell 1, HK3.out.cell 2, HK3.out.cell 3⟩
                  have HX := Lib.hid (show Sees (W3.alloc (.cells #[.int .i64 tk, .int .i64 tn, .int .i64 a, .string tt] 96)) (W3.alloc (.cells #[.int .i64 tk, .int .i64 tn, .int .i64 a, .string tt] 96)).heap.size 4 (some ⟨W3.heap.size, 0, none⟩) 1 [.int .i64 tk, .int .i64 tn, .int .i64 a, .string tt] from (Blk.mk (heap_alloc_new W3 _) : Blk _ W3.heap.size 96 [.int .i64 tk, .int .i64 tn, .int .i64 a, .string tt]).sees rfl (List.prefix_refl _))
                  have HOA := Lib.hid (HO3.out.alloc (.cells #[.int .i64 tk, .int .i64 tn, .int .i64 a, .string tt] 96))
                  have HBA := Lib.hid (HB3.out.alloc HB3.out.size (.cells #[.int .i64 tk, .int .i64 tn, .int .i64 a, .string tt] 96))
                  have hbv : ∀ g, (Value.slice A toks.length c).ownBlock = some g → w.heap.size ≤ g := fun g hg => (HO3.out.lt g hg).1
                  have HBV := Lib.hid hbv
                  have hba := HBA.out.size
                  clear hbv HO3 HB3 HK3
                  go_wp2_with (at_builtin; refine wpList_append_at rfl (.tmp 41) (.tmp 43) 84 rfl w.heap.size 96 i0 (.agg #[.int .i64 0, .int .i64 0, .int .i64 0, .string ⟨#[]⟩]) 4 40 Tryz.underlying84 hi0 hz0 hz1 hz2 rfl (by decide) (.slice A toks.length c) toks.length (tcells toks) rfl HOA.out _ _ 1 1 [.int .i64 tk, .int .i64 tn, .int .i64 a, .string tt] rfl HX.out (by simp [Value.oneCell']) (by unfold maxLen; omega) (by omega) hba ?_)
                  intro v3 w3 hown3 hgr3 hwh3
                  obtain ⟨A3, c3, rfl, hc3, hc4⟩ := own_slice hown3
                  have HO4 := Lib.hid (show w3.ownsRow w.heap.size 96 4 (.slice A3 (toks ++ [(⟨tk, tn, a, tt⟩ : Tok)]).length c3) (toks ++ [(⟨tk, tn, a, tt⟩ : Tok)]).length (tcells (toks ++ [(⟨tk, tn, a, tt⟩ : Tok)])) by rw [tcells_append, List.length_append]; exact hown3)
                  have HB4 := Lib.hid (HBA.out.grown hgr3 hba HBV.out)
                  have HLN := Lib.hid (show (toks ++ [(⟨tk, tn, a, tt⟩ : Tok)]).length = toks.length + 1 by simp)
                  have hln : (toks ++ [(⟨tk, tn, a, tt⟩ : Tok)]).length ≤ 400 := by rw [HLN.out]; omega
                  clear hown3 hgr3 hwh3 HOA HX HBA HBV q0 q1 q2 q3 hc3
                  generalize toks ++ [(⟨tk, tn, a, tt⟩ : Tok)] = toks2 at *
                  have hu0 : 0 < u := HU0.out
                  go_wp2_with fail
                  go_roundg (g + 1 - u)
                  case measure => omega
                  case rel => exact ⟨a + u, toks2, A3, c3, by omega, by go_num, by rw [HLN.out], HN.out, hln, HO4.out, HB4.out⟩
  case rest =>
    obtain ⟨a, toks, A, c, rfl, rfl, htot, hale, hown, hbel⟩ := hcut
    have HT := Lib.hid htot; have HO := Lib.hid hown; have HB := Lib.hid hbel
    clear htot hown hbel HT0
    by_cases hlt : a < s.size
    · have hlt2 : (a : Int) < s.size := by omega
      go_wp2_with fail
      try rw [Exit.noGoto_ret]
      go_ret3
      rw [HT.out]
      unfold TokAns
      rw [if_pos hlt]
      exact ⟨rfl, HB.out⟩
    · have hlt2 : (s.size : Int) ≤ a := by omega
      go_wp2_with fail
      try rw [Exit.noGoto_ret]
      go_ret3
      rw [HT.out]
      unfold TokAns
      rw [if_neg hlt]
      obtain ⟨A', c', j1, j2, j3⟩ := own_slice HO.out
      injection j1 with j1 _ j4; subst j1; subst j4
      exact ⟨A, c, rfl, HO.out, HB.out, j2, j3⟩
end Go.Proofs.YtcaapbbbekggiaaGreatDoor

namespace Go.Proofs.YtcaapbbbekggiaaGreatDoor
open Go.ChangeShapes Go.WideShapes Go.ChangeAt Go.RowKit
set_option linter.unusedVariables false
set_option linter.unusedSimpArgs false
set_option maxRecDepth 100000
/-- A token's own text. -/
def tokL (t : Tok) : List UInt8 := if t.kd = 1 then Lib.itoa t.n else if t.kd = 2 ∨ t.kd = 4 then t.tx.data.toList else if t.kd = 3 then quoteL t.tx.data.toList else []
/-- Tokens' texts, blanks between. -/
def joinT : List Tok → List UInt8
  | [] => []
  | x :: l => tokL x ++ (if l.isEmpty then [] else 32 :: joinT l)
theorem joinT_snoc (l : List Tok) (x : Tok) : joinT (l ++ [x]) = joinT l ++ (if l.isEmpty then tokL x else 32 :: tokL x) := by
  induction l with
  | nil => simp [joinT]
  | cons y l ih =>
    rw [List.cons_append, joinT, joinT, ih]
    cases l <;> simp [joinT]
/-- A token that join's contract speaks of. -/
def TokOk (t : Tok) : Prop := t.tx.size ≤ 1000 ∧ -9223372036854775808 ≤ t.n ∧ t.n ≤ 9223372036854775807
theorem tokL_length_le {t : Tok} (h : TokOk t) : (tokL t).length ≤ 2002 := by
  have h1 := Lib.itoa_length_le t.n h.2.1 h.2.2
  have h2 := quoteL_length_le t.tx.data.toList
  have h3 : t.tx.data.toList.length = t.tx.size := by simp
  have := h.1
  unfold tokL; repeat' split
  all_goals (try simp only [List.length_nil]); all_goals omega
theorem joinT_length_le (l : List Tok) (h : ∀ x ∈ l, TokOk x) : (joinT l).length ≤ 2003 * l.length := by
  induction l with
  | nil => simp [joinT]
  | cons x l ih =>
    have h1 := tokL_length_le (h x List.mem_cons_self)
    have h2 := ih fun y hy => h y (List.mem_cons_of_mem _ hy)
    rw [joinT, List.length_append, List.length_cons]
    split
    · simp; omega
    · rw [List.length_cons]; omega
theorem take_emptyT {l : List Tok} {k : Nat} (h : k < l.length) : (l.take k).isEmpty = decide (k = 0) := by
  cases k with
  | zero => simp
  | succ k => cases l with
    | nil => simp at h
    | cons x l => simp
theorem tcells_get (l : List Tok) (p : Nat) (h : p < l.length) : (tcells l)[p * 4]? = some (.int .i64 l[p].kd) ∧ (tcells l)[p * 4 + 1]? = some (.int .i64 l[p].n) ∧ (tcells l)[p * 4 + 2]? = some (.int .i64 l[p].at_) ∧ (tcells l)[p * 4 + 3]? = some (.string l[p].tx) := by
  have e : tcells l = tcells (l.take p) ++ ([.int .i64 l[p].kd, .int .i64 l[p].n, .int .i64 l[p].at_, .string l[p].tx] ++ tcells (l.drop (p + 1))) := by
    have e1 : l = l.take p ++ (l[p] :: l.drop (p + 1)) := by rw [← List.drop_eq_getElem_cons h, List.take_append_drop]
    conv => lhs; rw [e1]
    rw [tcells_append]; rfl
  have hl : (tcells (l.take p)).length = p * 4 := by rw [tcells_length, List.length_take]; omega
  rw [e]
  refine ⟨?_, ?_, ?_, ?_⟩ <;> rw [List.getElem?_append_right (by omega), hl]
  · rw [Nat.sub_self]; rfl
  · rw [show p * 4 + 1 - p * 4 = 1 by omega]; rfl
  · rw [show p * 4 + 2 - p * 4 = 2 by omega]; rfl
  · rw [show p * 4 + 3 - p * 4 = 3 by omega]; rfl
theorem Sees.tok {w : World} {B : Nat} {A : Option Addr} {n : Nat} {l : List Tok} (h : Sees w B 4 A n (tcells l)) {k : Nat} (hk : k < n) :
    ∃ ad, ∃ hl : k < l.length, A = some ad ∧ w.cell? (ad.add (k * 4)) = some (.int .i64 l[k].kd) ∧ w.cell? ⟨(ad.add (k * 4)).block, (ad.add (k * 4)).off + 1, none⟩ = some (.int .i64 l[k].n) ∧ w.cell? ⟨(ad.add (k * 4)).block, (ad.add (k * 4)).off + 2, none⟩ = some (.int .i64 l[k].at_) ∧ w.cell? ⟨(ad.add (k * 4)).block, (ad.add (k * 4)).off + 3, none⟩ = some (.string l[k].tx) := by
  have hl : k < l.length := by have := h.len; rw [tcells_length] at this; omega
  obtain ⟨ad, e, _, hc⟩ := h.at_ (by omega)
  obtain ⟨h0, h1, h2, h3⟩ := tcells_get l k hl
  exact ⟨ad, hl, e, hc _ _ h0, by rw [add_spelt _ _ _ (by omega)]; exact hc _ _ h1, by rw [add_spelt _ _ _ (by omega)]; exact hc _ _ h2, by rw [add_spelt _ _ _ (by omega)]; exact hc _ _ h3⟩
end Go.Proofs.YtcaapbbbekggiaaGreatDoor

namespace Go.Proofs.YtcaapbbbekggiaaGreatDoor
open Go.ChangeShapes Go.WideShapes Go.ChangeAt Go.RowKit
set_option linter.unusedVariables false
set_option linter.unusedSimpArgs false
set_option maxRecDepth 100000
/-- A token that a text can have. -/
def okTok (t : Tok) : Prop :=
  (t.kd = 1 ∧ I64 t.n ∧ t.tx = ⟨#[]⟩) ∨
  (t.kd = 2 ∧ t.n = 0 ∧ ∃ c r, t.tx.data.toList = c :: r ∧ smallN c.toNat = true ∧ (∀ x ∈ r, withinN x.toNat = true) ∧ r.length ≤ 23) ∨
  (t.kd = 3 ∧ t.n = 0 ∧ t.tx.size ≤ 24) ∨
  (t.kd = 4 ∧ t.n = 0 ∧ t.tx ∈ signsL)
def signOk (s : List UInt8) (c : UInt8) : Bool := if s = [61] ∨ s = [60] ∨ s = [62] then decide (c ≠ 61) else if s = [45] then !digitN c.toNat else true
/-- May this byte stand behind a token. -/
def follow (t : Tok) (c : UInt8) : Bool :=
  if t.kd = 1 then !digitN c.toNat else if t.kd = 2 then !withinN c.toNat else if t.kd = 3 then true else signOk t.tx.data.toList c
def FollowL (t : Tok) (l : List UInt8) : Prop := ∀ c r, l = c :: r → follow t c = true
theorem digit_byte {d : Nat} (h : d < 10) : (UInt8.ofNat (48 + d)).toNat = 48 + d := by rw [UInt8.toNat_ofNat']; omega
theorem digit_yes {d : Nat} (h : d < 10) : digitN (UInt8.ofNat (48 + d)).toNat = true := by rw [digit_byte h]; exact digitN_yes (by omega) (by omega)
/-- Digits are read down to the number below nought. -/
theorem numGo_dec : ∀ (u : Nat), u ≤ 9223372036854775808 → ∀ r : List UInt8, numGo 0 (Lib.decDigits u ++ r) = (numGo (-(u : Int)) r).map fun p => (p.1, p.2 + (Lib.decDigits u).length) := by
  intro u
  induction u using Nat.strongRecOn with
  | _ u ih =>
    intro hu r
    rw [Lib.decDigits]
    by_cases h : u < 10
    · rw [dif_pos h]
      show numGo 0 (UInt8.ofNat (48 + u) :: r) = _
      conv => lhs; unfold numGo
      rw [if_pos (digit_yes h), digit_byte h]
      obtain ⟨t, ht, ht1, ht2, ht3⟩ := tdiv_min ((48 + u : Nat) - 48 : Int) (by omega) (by omega)
      rw [ht, if_neg (by omega), show (0 : Int) * 10 - (((48 + u : Nat) : Int) - 48) = -(u : Int) by omega]
      rfl
    · rw [dif_neg h, List.append_assoc, ih (u / 10) (by omega) (by omega)]
      show (numGo (-((u / 10 : Nat) : Int)) (UInt8.ofNat (48 + u % 10) :: r)).map _ = _
      conv => lhs; unfold numGo
      rw [if_pos (digit_yes (by omega)), digit_byte (by omega)]
      obtain ⟨t, ht, ht1, ht2, ht3⟩ := tdiv_min ((48 + u % 10 : Nat) - 48 : Int) (by omega) (by omega)
      rw [ht]
      have hq : ¬ (-((u / 10 : Nat) : Int) < t) := by
        have e : (-9223372036854775808 + (((48 + u % 10 : Nat) : Int) - 48)).tdiv 10 = -((9223372036854775808 - (((48 + u % 10 : Nat) : Int) - 48)) / 10) := by
          rw [show -9223372036854775808 + (((48 + u % 10 : Nat) : Int) - 48) = -(9223372036854775808 - (((48 + u % 10 : Nat) : Int) - 48)) by omega, Int.neg_tdiv, Int.tdiv_eq_ediv_of_nonneg (by omega)]
        rw [← ht, e]; omega
      rw [if_neg hq, show -((u / 10 : Nat) : Int) * 10 - (((48 + u % 10 : Nat) : Int) - 48) = -(u : Int) by omega]
      rw [Option.map_map]
      congr 1
      funext p
      simp only [Function.comp_apply, List.length_append, List.length_singleton]
      congr 1
      omega
theorem numGo_stop {n : Int} {r : List UInt8} (h : ∀ c q, r = c :: q → digitN c.toNat = false) : numGo n r = some (n, 0) := by
  cases r with
  | nil => rfl
  | cons c q =>
    unfold numGo
    rw [if_neg (by rw [h c q rfl]; simp)]
theorem decDigits_head (u : Nat) : ∃ c r, Lib.decDigits u = c :: r ∧ digitN c.toNat = true := by
  induction u using Nat.strongRecOn with
  | _ u ih =>
    rw [Lib.decDigits]
    by_cases h : u < 10
    · rw [dif_pos h]; exact ⟨_, _, rfl, digit_yes h⟩
    · obtain ⟨c, r, e, hc⟩ := ih (u / 10) (by omega)
      rw [dif_neg h, e]; exact ⟨c, _, rfl, hc⟩
theorem numF_itoa {n : Int} (hn : I64 n) {r : List UInt8} (h : ∀ c q, r = c :: q → digitN c.toNat = false) : numF (Lib.itoa n ++ r) = some (n, (Lib.itoa n).length) := by
  unfold I64 at hn
  unfold Lib.itoa
  by_cases h0 : n < 0
  · rw [if_pos h0]
    unfold numF
    rw [if_pos (show ((45 :: Lib.decDigits n.natAbs) ++ r).head? = some 45 from rfl)]
    show numAt 1 0 (Lib.decDigits n.natAbs ++ r) = _
    unfold numAt
    rw [numGo_dec _ (by omega), numGo_stop h]
    simp only [Option.map_some, List.length_cons]
    congr 1
    rw [show -((n.natAbs : Nat) : Int) = n by omega]
    congr 1
    omega
  · rw [if_neg h0]
    obtain ⟨c, q, e, hc⟩ := decDigits_head n.toNat
    have hne : ¬ (Lib.decDigits n.toNat ++ r).head? = some 45 := by
      rw [e]
      intro h1
      have h2 : c = 45 := by simpa using h1
      rw [h2] at hc; exact absurd hc (by decide)
    unfold numF
    rw [if_neg hne]
    unfold numAt
    rw [numGo_dec _ (by omega), numGo_stop h]
    simp only [Option.map_some]
    rw [if_neg (by omega)]
    congr 1
    rw [show - -((n.toNat : Nat) : Int) = n by omega]
    congr 1
    omega
end Go.Proofs.YtcaapbbbekggiaaGreatDoor

namespace Go.Proofs.YtcaapbbbekggiaaGreatDoor
open Go.ChangeShapes Go.WideShapes Go.ChangeAt Go.RowKit
set_option linter.unusedVariables false
set_option linter.unusedSimpArgs false
set_option maxRecDepth 100000
theorem spanW_app {r rest : List UInt8} (h : ∀ x ∈ r, withinN x.toNat = true) (hr : ∀ c q, rest = c :: q → withinN c.toNat = false) : spanW (r ++ rest) = r.length := by
  induction r with
  | nil =>
    cases rest with
    | nil => rfl
    | cons c q => exact spanW_no (hr c q rfl)
  | cons x r ih =>
    rw [List.cons_append, spanW_yes (h x List.mem_cons_self), ih (fun y hy => h y (List.mem_cons_of_mem _ hy))]; rfl
theorem unq_escL : ∀ (l acc rest : List UInt8), acc.length + l.length ≤ 24 → unq (escL l ++ 34 :: rest) acc = some (acc ++ l, rest)
  | [], acc, rest, h => by
    show unq (34 :: rest) acc = _
    unfold unq
    rw [if_neg (by simp at h; omega), if_pos rfl, List.append_nil]
  | c :: l, acc, rest, h => by
    rw [List.length_cons] at h
    have ih := unq_escL l (acc ++ [c]) rest (by rw [List.length_append, List.length_singleton]; omega)
    by_cases he : escB c = true
    · have e : escL (c :: l) = 92 :: c :: escL l := by unfold escL; rw [List.flatMap_cons, if_pos he]; rfl
      rw [e]
      show unq (92 :: c :: (escL l ++ 34 :: rest)) acc = _
      unfold unq
      rw [if_neg (by omega), if_neg (by decide), if_pos rfl]
      simp only
      rw [if_pos he, ih, List.append_assoc]; rfl
    · have e : escL (c :: l) = c :: escL l := by unfold escL; rw [List.flatMap_cons, if_neg he]; rfl
      have h34 : c ≠ 34 := fun e => he (by rw [e]; decide)
      have h92 : c ≠ 92 := fun e => he (by rw [e]; decide)
      rw [e]
      show unq (c :: (escL l ++ 34 :: rest)) acc = _
      unfold unq
      rw [if_neg (by omega), if_neg h34, if_neg h92, ih, List.append_assoc]; rfl
/-- What a token's text begins with is no blank. -/
def NoBlank (l : List UInt8) : Prop := ∃ c r, l = c :: r ∧ (c.toNat == 32 || c.toNat == 10) = false
theorem ba_mk (l : List UInt8) : (⟨l.toArray⟩ : ByteArray).data.toList = l := rfl
theorem itoa_head (n : Int) : ∃ c r, Lib.itoa n = c :: r ∧ (digitN c.toNat = true ∨ c = 45 ∧ ∃ d q, r = d :: q ∧ digitN d.toNat = true) := by
  unfold Lib.itoa
  split
  · obtain ⟨d, q, e, hd⟩ := decDigits_head n.natAbs
    exact ⟨45, _, rfl, .inr ⟨rfl, d, q, e, hd⟩⟩
  · obtain ⟨d, q, e, hd⟩ := decDigits_head n.toNat
    exact ⟨d, q, e, .inl hd⟩
theorem first_num {n : Int} (hn : I64 n) {rest : List UInt8} (h : ∀ c q, rest = c :: q → digitN c.toNat = false) : firstT ⟨(Lib.itoa n ++ rest).toArray⟩ = some (⟨1, n, 0, ⟨#[]⟩⟩, (Lib.itoa n).length) := by
  have h1 : isNum (Lib.itoa n ++ rest) = true := by
    obtain ⟨c, r, e, hc | ⟨rfl, d, q, rfl, hd⟩⟩ := itoa_head n
    · rw [e]; unfold isNum
      show (digitN c.toNat || _) = true
      rw [hc]; rfl
    · rw [e]; unfold isNum
      show (digitN (45 : UInt8).toNat || ((45 : UInt8).toNat == 45 && (decide (1 < (45 :: d :: q ++ rest).length) && digitN d.toNat))) = true
      rw [hd, decide_eq_true (by simp)]; rfl
  unfold firstT
  rw [ba_mk, if_pos h1]
  unfold numT
  rw [numF_itoa hn h]; rfl
theorem small_facts {c : UInt8} (h : smallN c.toNat = true) : digitN c.toNat = false ∧ (c.toNat == 45) = false ∧ (c.toNat == 32 || c.toNat == 10) = false := by
  unfold smallN at h
  rw [Bool.and_eq_true, decide_eq_true_iff, decide_eq_true_iff] at h
  refine ⟨digitN_high (by omega), by rw [beq_eq_false_iff_ne]; omega, ?_⟩
  rw [beq_eq_false_iff_ne.2 (by omega), beq_eq_false_iff_ne.2 (by omega)]; rfl
theorem digit_facts {c : UInt8} (h : digitN c.toNat = true) : (c.toNat == 32 || c.toNat == 10) = false := by
  unfold digitN at h
  rw [Bool.and_eq_true, decide_eq_true_iff, decide_eq_true_iff] at h
  rw [beq_eq_false_iff_ne.2 (by omega), beq_eq_false_iff_ne.2 (by omega)]; rfl
theorem first_word {x : ByteArray} {c : UInt8} {r rest : List UInt8} (e : x.data.toList = c :: r) (hc : smallN c.toNat = true) (hr : ∀ y ∈ r, withinN y.toNat = true) (hl : r.length ≤ 23) (h : ∀ d q, rest = d :: q → withinN d.toNat = false) :
    firstT ⟨(x.data.toList ++ rest).toArray⟩ = some (⟨2, 0, 0, x⟩, x.data.toList.length) := by
  obtain ⟨f1, f2, _⟩ := small_facts hc
  unfold firstT
  rw [ba_mk, e]
  rw [if_neg (by unfold isNum; show ¬ (digitN c.toNat || (c.toNat == 45 && _)) = true; rw [f1, f2]; simp), if_pos (by exact hc)]
  unfold wordT
  rw [ba_mk]
  have hs : spanW ((c :: r ++ rest).drop 1) = r.length := spanW_app hr h
  rw [hs, if_neg (by omega)]
  congr 2
  · congr 1
    have hx : x = ⟨(c :: r).toArray⟩ := by
      have : x = ⟨x.data.toList.toArray⟩ := by cases x; simp
      rw [this, e]
    rw [hx]
    apply ByteArray.ext
    rw [ByteArray.data_extract]
    apply Array.toList_inj.1
    simp [List.extract_eq_take_drop]
theorem first_text {x : ByteArray} (hx : x.size ≤ 24) (rest : List UInt8) : firstT ⟨(quoteL x.data.toList ++ rest).toArray⟩ = some (⟨3, 0, 0, x⟩, (quoteL x.data.toList).length) := by
  have e : quoteL x.data.toList ++ rest = 34 :: (escL x.data.toList ++ 34 :: rest) := by unfold quoteL; simp
  unfold firstT
  rw [ba_mk, e]
  rw [if_neg (by unfold isNum; show ¬ (digitN (34 : UInt8).toNat || ((34 : UInt8).toNat == 45 && _)) = true; rw [show digitN (34 : UInt8).toNat = false by decide, show ((34 : UInt8).toNat == 45) = false by decide]; simp), if_neg (by show ¬ smallN (34 : UInt8).toNat = true; decide), if_pos (by show ((34 : UInt8).toNat == 34) = true; decide)]
  unfold quotedT
  rw [show (34 :: (escL x.data.toList ++ 34 :: rest)).drop 1 = escL x.data.toList ++ 34 :: rest from rfl, unq_escL _ [] rest (by simp; omega)]
  have hx2 : (⟨x.data.toList.toArray⟩ : ByteArray) = x := by cases x; simp
  simp only [Option.map_some, List.nil_append, hx2]
  congr 2
  unfold quoteL
  simp; omega
theorem signIn_go (l : List UInt8) (x : ByteArray) (r : List ByteArray) (h : Lib.hasPrefix l x.data.toList = false) : signIn l (x :: r) = signIn l r := by
  conv => lhs; unfold signIn
  rw [if_neg (by rw [h]; simp)]
/-- The byte ahead of which a sign ends. -/
theorem first_sign {x : ByteArray} (hx : x ∈ signsL) {rest : List UInt8} (h : ∀ c q, rest = c :: q → signOk x.data.toList c = true) : firstT ⟨(x.data.toList ++ rest).toArray⟩ = some (⟨4, 0, 0, x⟩, x.data.toList.length) := by
  have key : isNum (x.data.toList ++ rest) = false ∧ smallN ((x.data.toList ++ rest).headD 0).toNat = false ∧ (((x.data.toList ++ rest).headD 0).toNat == 34) = false ∧ signIn (x.data.toList ++ rest) signsL = some (⟨4, 0, 0, x⟩, x.data.toList.length) := by
    simp only [signsL, List.mem_cons, List.not_mem_nil, or_false] at hx
    rcases hx with rfl | rfl | rfl | rfl | rfl | rfl | rfl | rfl | rfl | rfl | rfl | rfl | rfl | rfl | rfl | rfl | rfl | rfl | rfl | rfl | rfl | rfl
    all_goals
      cases rest with
      | nil => exact ⟨rfl, rfl, rfl, rfl⟩
      | cons c q =>
        have hc := h c q rfl
        first
          | exact ⟨rfl, rfl, rfl, rfl⟩
          | (have h61 : c ≠ 61 := by simpa [signOk] using hc
             refine ⟨rfl, rfl, rfl, ?_⟩
             have hb : (61 == c) = false := by rw [beq_eq_false_iff_ne]; exact fun e => h61 e.symm
             simp [signIn, signsL, Lib.hasPrefix, List.isPrefixOf, hb]
             rfl)
          | (have hd : digitN c.toNat = false := by simpa [signOk] using hc
             refine ⟨?_, rfl, rfl, rfl⟩
             show (digitN (45 : UInt8).toNat || ((45 : UInt8).toNat == 45 && (decide (1 < (45 :: c :: q).length) && digitN c.toNat))) = false
             rw [hd]; simp; decide)
  obtain ⟨k1, k2, k3, k4⟩ := key
  unfold firstT
  rw [ba_mk, if_neg (by rw [k1]; simp), if_neg (by rw [k2]; simp), if_neg (by rw [k3]; simp), k4]
theorem sign_head {x : ByteArray} (hx : x ∈ signsL) : ∃ c r, x.data.toList = c :: r ∧ (c.toNat == 32 || c.toNat == 10) = false := by
  simp only [signsL, List.mem_cons, List.not_mem_nil, or_false] at hx
  rcases hx with rfl | rfl | rfl | rfl | rfl | rfl | rfl | rfl | rfl | rfl | rfl | rfl | rfl | rfl | rfl | rfl | rfl | rfl | rfl | rfl | rfl | rfl <;> exact ⟨_, _, rfl, by decide⟩
theorem first_spell {t : Tok} (h : okTok t) {rest : List UInt8} (hf : FollowL t rest) : firstT ⟨(tokL t ++ rest).toArray⟩ = some (⟨t.kd, t.n, 0, t.tx⟩, (tokL t).length) ∧ NoBlank (tokL t) := by
  obtain ⟨kd, n, at_, tx⟩ := t
  rcases h with ⟨h1, h2, h3⟩ | ⟨h1, h2, c, r, e, hc, hr, hl⟩ | ⟨h1, h2, h3⟩ | ⟨h1, h2, h3⟩
  · simp only at h1 h2 h3
    subst h1; subst h3
    refine ⟨first_num h2 (fun c q e => by have := hf c q e; simpa [follow] using this), ?_⟩
    obtain ⟨c, r, e, hc⟩ := itoa_head n
    refine ⟨c, r, e, ?_⟩
    rcases hc with hc | ⟨rfl, _⟩
    · exact digit_facts hc
    · decide
  · simp only at h1 h2 e
    subst h1; subst h2
    exact ⟨first_word e hc hr hl (fun c q e => by have := hf c q e; simpa [follow] using this), c, r, e, (small_facts hc).2.2⟩
  · simp only at h1 h2 h3
    subst h1; subst h2
    exact ⟨first_text h3 rest, 34, _, rfl, by decide⟩
  · simp only at h1 h2 h3
    subst h1; subst h2
    exact ⟨first_sign h3 (fun c q e => by have := hf c q e; simpa [follow] using this), sign_head h3⟩
end Go.Proofs.YtcaapbbbekggiaaGreatDoor

namespace Go.Proofs.YtcaapbbbekggiaaGreatDoor
open Go.ChangeShapes Go.WideShapes Go.ChangeAt Go.RowKit
set_option linter.unusedVariables false
set_option linter.unusedSimpArgs false
set_option maxRecDepth 100000
/-- A token so much further. -/
def shiftT (k : Nat) (t : Tok) : Tok := ⟨t.kd, t.n, t.at_ + k, t.tx⟩
theorem shift_shift (j k : Nat) (ts : List Tok) : (ts.map (shiftT j)).map (shiftT k) = ts.map (shiftT (j + k)) := by
  rw [List.map_map]
  refine List.map_congr_left fun t _ => ?_
  show (⟨t.kd, t.n, t.at_ + j + k, t.tx⟩ : Tok) = ⟨t.kd, t.n, t.at_ + ((j + k : Nat) : Int), t.tx⟩
  congr 1; omega
theorem shift_zero (ts : List Tok) : ts.map (shiftT 0) = ts := by
  conv => rhs; rw [← List.map_id ts]
  refine List.map_congr_left fun t _ => ?_
  show (⟨t.kd, t.n, t.at_ + ((0 : Nat) : Int), t.tx⟩ : Tok) = t
  cases t; congr 1; simp
/-- This text, with that rest behind it, is cut into these tokens. -/
inductive CutR : List UInt8 → List Tok → List UInt8 → Prop
  | nil (rest : List UInt8) : CutR [] [] rest
  | blank {l : List UInt8} {ts : List Tok} {rest : List UInt8} (b : UInt8) (hb : (b.toNat == 32 || b.toNat == 10) = true) (h : CutR l ts rest) : CutR (b :: l) (ts.map (shiftT 1)) rest
  | tok {l : List UInt8} {ts : List Tok} {rest : List UInt8} (t : Tok) (ht : okTok t) (h0 : t.at_ = 0) (hf : FollowL t (l ++ rest)) (h : CutR l ts rest) : CutR (tokL t ++ l) (t :: ts.map (shiftT (tokL t).length)) rest
theorem CutR.append {l l2 : List UInt8} {ts ts2 : List Tok} {rest rest2 : List UInt8} (h : CutR l ts rest) (h2 : CutR l2 ts2 rest2) (e : rest = l2 ++ rest2) : CutR (l ++ l2) (ts ++ ts2.map (shiftT l.length)) rest2 := by
  induction h with
  | nil rest => simpa [shift_zero] using h2
  | blank b hb h ih =>
    have := CutR.blank b hb (ih e)
    rw [List.map_append, shift_shift] at this
    exact this
  | @tok l ts rest t ht h0 hf h ih =>
    have h3 := CutR.tok t ht h0 (l := l ++ l2) (rest := rest2) (by rw [List.append_assoc, ← e]; exact hf) (ih e)
    rw [List.map_append, shift_shift] at h3
    rw [List.append_assoc, List.cons_append, List.length_append, Nat.add_comm]
    exact h3
theorem CutR.go {l : List UInt8} {ts : List Tok} {rest : List UInt8} (h : CutR l ts rest) : ∀ (f f' a : Nat) (acc : List Tok), (l ++ rest).length < f → rest.length < f' → acc.length + ts.length ≤ 400 →
    tokGo f (l ++ rest) a acc = tokGo f' rest (a + l.length) (acc ++ ts.map (shiftT a)) := by
  induction h with
  | nil rest =>
    intro f f' a acc hf hf' hl
    simp only [List.nil_append, List.length_nil, Nat.add_zero, List.map_nil, List.append_nil]
    exact tokGo_fuel f f' rest a acc (by simpa using hf) hf'
  | @blank l ts rest b hb h ih =>
    intro f f' a acc hf hf' hl
    cases f with
    | zero => omega
    | succ f =>
      rw [List.cons_append, List.length_cons] at hf
      rw [List.length_map] at hl
      rw [List.cons_append]
      conv => lhs; unfold tokGo
      simp only
      rw [if_pos hb, ih f f' (a + 1) acc (by omega) hf' hl, shift_shift, List.length_cons]
      congr 1
      · omega
      · rw [Nat.add_comm]
  | @tok l ts rest t ht h0 hfl h ih =>
    intro f f' a acc hf hf' hl
    obtain ⟨hfirst, c, r, ec, hcb⟩ := first_spell ht hfl
    cases f with
    | zero => omega
    | succ f =>
      rw [List.append_assoc] at hf ⊢
      rw [List.length_cons, List.length_map] at hl
      have hlen : (tokL t).length = r.length + 1 := by rw [ec]; rfl
      have e2 : tokL t ++ (l ++ rest) = c :: (r ++ (l ++ rest)) := by rw [ec]; rfl
      rw [List.length_append] at hf
      conv => lhs; rw [e2]; unfold tokGo
      simp only
      rw [if_neg (by rw [hcb]; simp), if_neg (by omega), ← e2, hfirst]
      simp only
      rw [if_neg (by omega), List.drop_left, ih f f' (a + (tokL t).length) _ (by omega) hf' (by rw [List.length_append, List.length_singleton]; omega)]
      rw [List.map_cons, shift_shift, List.length_append]
      congr 1
      · omega
      · rw [List.append_assoc, List.singleton_append, Nat.add_comm (tokL t).length a]
        congr 2
        show (⟨t.kd, t.n, (a : Int), t.tx⟩ : Tok) = ⟨t.kd, t.n, t.at_ + (a : Int), t.tx⟩
        rw [h0, Int.zero_add]
/-- A whole text's tokens. -/
theorem CutR.tokF {l : List UInt8} {ts : List Tok} (h : CutR l ts []) (hl : ts.length ≤ 400) : tokF l = (ts, l.length) := by
  have h1 := h.go (l.length + 1) 1 0 [] (by simp) (by simp) (by simpa using hl)
  rw [List.append_nil] at h1
  unfold Go.Proofs.YtcaapbbbekggiaaGreatDoor.tokF
  rw [h1, shift_zero, Nat.zero_add]; rfl
theorem CutR.ok {l : List UInt8} {ts : List Tok} {rest : List UInt8} (h : CutR l ts rest) : ∀ t ∈ ts, okTok t := by
  induction h with
  | nil => intro t ht; exact absurd ht List.not_mem_nil
  | blank b hb h ih =>
    intro t ht
    obtain ⟨x, hx, rfl⟩ := List.mem_map.1 ht
    exact ih x hx
  | tok t ht h0 hf h ih =>
    intro x hx
    rcases List.mem_cons.1 hx with rfl | hx
    · exact ht
    · obtain ⟨y, hy, rfl⟩ := List.mem_map.1 hx
      exact ih y hy
/-- Where a token stands. -/
def Stands (l : List UInt8) (t : Tok) : Prop := ∃ a : Nat, t.at_ = (a : Int) ∧ a + (tokL t).length ≤ l.length ∧ (l.drop a).take (tokL t).length = tokL t ∧ 0 < (tokL t).length
theorem tokL_shift (k : Nat) (t : Tok) : tokL (shiftT k t) = tokL t := rfl
theorem Stands.shift {l p : List UInt8} {t : Tok} (h : Stands l t) : Stands (p ++ l) (shiftT p.length t) := by
  obtain ⟨a, h1, h2, h3, h4⟩ := h
  refine ⟨a + p.length, by show t.at_ + (p.length : Int) = _; rw [h1]; omega, by rw [tokL_shift, List.length_append]; omega, ?_, h4⟩
  rw [tokL_shift, Nat.add_comm, ← List.drop_drop, List.drop_left]
  exact h3
theorem CutR.stands {l : List UInt8} {ts : List Tok} {rest : List UInt8} (h : CutR l ts rest) : (∀ t ∈ ts, Stands l t) ∧ ts.Pairwise fun x y => x.at_ < y.at_ := by
  induction h with
  | nil => exact ⟨fun t ht => absurd ht List.not_mem_nil, List.Pairwise.nil⟩
  | @blank l ts rest b hb h ih =>
    refine ⟨fun t ht => ?_, ?_⟩
    · obtain ⟨x, hx, rfl⟩ := List.mem_map.1 ht
      exact (ih.1 x hx).shift (p := [b])
    · rw [List.pairwise_map]
      exact ih.2.imp fun {x y} h => by show x.at_ + (1 : Nat) < y.at_ + (1 : Nat); omega
  | @tok l ts rest t ht h0 hf h ih =>
    obtain ⟨_, c, r, ec, _⟩ := first_spell ht hf
    have hlen : 0 < (tokL t).length := by rw [ec]; simp
    refine ⟨fun x hx => ?_, ?_⟩
    · rcases List.mem_cons.1 hx with rfl | hx
      · exact ⟨0, h0, by rw [List.length_append]; omega, by simp, hlen⟩
      · obtain ⟨y, hy, rfl⟩ := List.mem_map.1 hx
        exact (ih.1 y hy).shift
    · rw [List.pairwise_cons]
      refine ⟨fun x hx => ?_, ?_⟩
      · obtain ⟨y, hy, rfl⟩ := List.mem_map.1 hx
        obtain ⟨a, h1, _⟩ := ih.1 y hy
        show t.at_ < y.at_ + ((tokL t).length : Int)
        rw [h0, h1]; omega
      · rw [List.pairwise_map]
        exact ih.2.imp fun {x y} h => by show x.at_ + ((tokL t).length : Int) < y.at_ + ((tokL t).length : Int); omega
/-- Tokens alike but for their places. -/
def alike (x y : Tok) : Prop := x.kd = y.kd ∧ x.n = y.n ∧ x.tx = y.tx
theorem follow_blank {t : Tok} (h : okTok t) (b : UInt8) (hb : b = 32 ∨ b = 10) : follow t b = true := by
  rcases h with ⟨h1, _⟩ | ⟨h1, _⟩ | ⟨h1, _⟩ | ⟨h1, _⟩ <;> unfold follow <;> rw [h1]
  · rcases hb with rfl | rfl <;> rfl
  · rcases hb with rfl | rfl <;> rfl
  · rfl
  · show signOk _ b = true
    unfold signOk
    split
    · rcases hb with rfl | rfl <;> decide
    · split
      · rcases hb with rfl | rfl <;> decide
      · rfl
/-- Rows of tokens alike but for their places. -/
inductive AlikeL : List Tok → List Tok → Prop where
  | nil : AlikeL [] []
  | cons {x y : Tok} {l m : List Tok} (h : alike x y) (t : AlikeL l m) : AlikeL (x :: l) (y :: m)
theorem AlikeL.len {l m : List Tok} (h : AlikeL l m) : l.length = m.length := by
  induction h with
  | nil => rfl
  | cons _ _ ih => simp [ih]
theorem AlikeL.get {l m : List Tok} (h : AlikeL l m) : ∀ (i : Nat) (h1 : i < l.length) (h2 : i < m.length), alike l[i] m[i] := by
  induction h with
  | nil => intro i h1; exact absurd h1 (by simp)
  | cons h t ih =>
    intro i h1 h2
    cases i with
    | zero => exact h
    | succ i => exact ih i _ _
theorem AlikeL.join {l m : List Tok} (h : AlikeL l m) : joinT l = joinT m := by
  induction h with
  | nil => rfl
  | @cons x y l m h t ih =>
    have he : l.isEmpty = m.isEmpty := by cases t <;> rfl
    have hx : tokL x = tokL y := by unfold tokL; rw [h.1, h.2.1, h.2.2]
    unfold joinT
    rw [hx, he, ih]
/-- Tokens joined are cut into the same ones. -/
theorem joinT_cut : ∀ (ts : List Tok), (∀ t ∈ ts, okTok t) → ∃ us, CutR (joinT ts) us [] ∧ AlikeL us ts
  | [], _ => ⟨[], CutR.nil [], .nil⟩
  | t :: ts, h => by
    obtain ⟨us, h1, h2⟩ := joinT_cut ts (fun x hx => h x (List.mem_cons_of_mem _ hx))
    have ht := h t List.mem_cons_self
    have ht0 : okTok ⟨t.kd, t.n, 0, t.tx⟩ := ht
    have hal : ∀ (k : Nat) (vs ws : List Tok), AlikeL vs ws → AlikeL (vs.map (shiftT k)) ws := by
      intro k vs ws h
      induction h with
      | nil => exact .nil
      | cons h _ ih => exact .cons h ih
    cases ts with
    | nil =>
      refine ⟨[⟨t.kd, t.n, 0, t.tx⟩], ?_, .cons ⟨rfl, rfl, rfl⟩ .nil⟩
      have := CutR.tok (l := []) (ts := []) (rest := []) ⟨t.kd, t.n, 0, t.tx⟩ ht0 rfl (fun c q e => by cases e) (CutR.nil [])
      exact this
    | cons y ts =>
      have h3 := CutR.tok (l := 32 :: joinT (y :: ts)) (rest := []) ⟨t.kd, t.n, 0, t.tx⟩ ht0 rfl (fun c q e => by
        rw [List.append_nil] at e
        injection e with e _
        rw [← e]; exact follow_blank ht0 32 (.inl rfl)) (CutR.blank 32 rfl h1)
      exact ⟨_, h3, .cons ⟨rfl, rfl, rfl⟩ (hal _ _ _ (hal _ _ _ h2))⟩
end Go.Proofs.YtcaapbbbekggiaaGreatDoor

namespace Go.Proofs.YtcaapbbbekggiaaGreatDoor
open Go.ChangeShapes Go.WideShapes Go.ChangeAt Go.RowKit
set_option linter.unusedVariables false
set_option linter.unusedSimpArgs false
set_option maxRecDepth 100000
@[go_sem] theorem field_tok1 (k n a : Int) (t : ByteArray) (w : World) : (Instr.field 96 (.agg #[.int .i64 k, .int .i64 n, .int .i64 a, .string t]) 1).run Tryz.prog w = .ok (.int .i64 n) w := by
  have u := Tryz.underlying96
  have u3 := Tryz.underlying3
  have a3 := Tryz.isAgg3
  have z3 := Tryz.sizeOf3
  unfold Instr.field
  go_simp
  rfl
@[go_sem] theorem field_tok3 (k n a : Int) (t : ByteArray) (w : World) : (Instr.field 96 (.agg #[.int .i64 k, .int .i64 n, .int .i64 a, .string t]) 3).run Tryz.prog w = .ok (.string t) w := by
  have u := Tryz.underlying96
  have u3 := Tryz.underlying9
  have a3 := Tryz.isAgg9
  have z3 := Tryz.sizeOf9
  unfold Instr.field
  go_simp
  rfl
end Go.Proofs.YtcaapbbbekggiaaGreatDoor

namespace Go.Proofs.YtcaapbbbekggiaaGreatDoor
open Go.ChangeShapes Go.WideShapes Go.ChangeAt Go.RowKit
set_option linter.unusedVariables false
set_option linter.unusedSimpArgs false
set_option maxRecDepth 100000
/-- Where a reader is: the next token, its fault's place, its fault. -/
structure PS where
  p : Nat
  fa : Int
  fe : Int
def zeroT : Tok := ⟨0, 0, 0, ⟨#[]⟩⟩
def Tok.same (t : Tok) (kd : Int) (tx : ByteArray) : Bool := decide (t.kd = kd) && decide (t.tx = tx)
def peekF (ts : List Tok) (s : PS) : Tok := if s.fe = 0 then (ts[s.p]?).getD zeroT else zeroT
def failF (ts : List Tok) (en : Int) (s : PS) (err : Int) : PS := if s.fe = 0 then ⟨s.p, match ts[s.p]? with | some t => t.at_ | none => en, err⟩ else s
def isF (ts : List Tok) (s : PS) (kd : Int) (tx : ByteArray) : Bool := (peekF ts s).same kd tx
def nextF (s : PS) : PS := ⟨s.p + 1, s.fa, s.fe⟩
def takeF (ts : List Tok) (en : Int) (s : PS) (kd : Int) : Tok × PS := if (peekF ts s).kd = kd then (peekF ts s, nextF s) else (zeroT, failF ts en s 1)
def mustF (ts : List Tok) (en : Int) (s : PS) (kd : Int) (tx : ByteArray) : PS := if isF ts s kd tx = true then nextF s else failF ts en s 1
def skipF (ts : List Tok) (s : PS) (kd : Int) (tx : ByteArray) : Bool × PS := if isF ts s kd tx = true then (true, nextF s) else (false, s)
/-- Blocks other than this one are as they were. -/
structure Only (b : Nat) (w w' : World) : Prop where
  size : w.heap.size ≤ w'.heap.size
  os : w'.os = w.os
  tape : w'.tape = w.tape
  output : w'.output = w.output
  block : ∀ k, k < w.heap.size → k ≠ b → w'.heap[k]? = w.heap[k]?
theorem Only.refl (b : Nat) (w : World) : Only b w w := ⟨Nat.le_refl _, rfl, rfl, rfl, fun _ _ _ => rfl⟩
theorem Only.trans {b : Nat} {w w' w2 : World} (h : Only b w w') (k : Only b w' w2) : Only b w w2 :=
  ⟨Nat.le_trans h.size k.size, k.os.trans h.os, k.tape.trans h.tape, k.output.trans h.output, fun q hq hn => (k.block q (Nat.lt_of_lt_of_le hq h.size) hn).trans (h.block q hq hn)⟩
theorem Only.of_below {b : Nat} {w w' : World} (h : Below w.heap.size w w') : Only b w w' := ⟨h.size, h.os, h.tape, h.output, fun q hq _ => h.block q hq⟩
theorem Only.alloc {b : Nat} {w w' : World} (h : Only b w w') (o : Obj) : Only b w (w'.alloc o) := h.trans (Only.of_below ((Below.refl _ _).alloc (Nat.le_refl _) o))
theorem Only.drew {b : Nat} {w w' : World} (h : Only b w w') : Only b w w'.drew := h.trans (Only.of_below (Below.refl _ _).drew)
theorem Only.set {b : Nat} {w w' : World} (h : Only b w w') (i : Nat) (u : Value) : Only b w (w'.setCell ⟨b, i, none⟩ u) := by
  have h1 : w'.grownBy (w'.setCell ⟨b, i, none⟩ u) (some b) := only_setCell (World.grownBy.refl w' (some b)) (p := ⟨b, i, none⟩) (.inl rfl) u
  exact h.trans ⟨h1.size, rfl, rfl, rfl, fun q hq hn => h1.block q hq (fun e => hn (by injection e))⟩
theorem FarS.only {S : Nat → Prop} {P : World → Prop} {b : Nat} {w w' : World} (h : FarS S P w) (hb : S b) (ho : Only b w w') : FarS S P w' :=
  h.next ho.size (fun q hq hn => ho.block q hq (fun e => hn (e ▸ hb))) (fun _ _ hS => hS)
/-- A reader at this place. -/
structure RdAt (b : Nat) (A : Option Addr) (n c : Nat) (ts : List Tok) (en : Int) (s : PS) (w : World) : Prop where
  blk : Blk w b 103 [.slice A n c, .int .i64 s.p, .int .i64 en, .int .i64 s.fa, .int .i64 s.fe]
  row : FarS (fun q => q = b) (fun W => Sees W W.heap.size 4 A n (tcells ts)) w
  le : s.p ≤ n
section
variable {b n c : Nat} {A : Option Addr} {ts : List Tok} {en : Int} {s s' : PS} {w w' : World}
theorem RdAt.below (h : RdAt b A n c ts en s w) (hb : Below w.heap.size w w') : RdAt b A n c ts en s w' := ⟨h.blk.below hb h.blk.lt, h.row.below hb, h.le⟩
theorem RdAt.alloc (h : RdAt b A n c ts en s w) (o : Obj) : RdAt b A n c ts en s (w.alloc o) := h.below ((Below.refl _ _).alloc (Nat.le_refl _) o)
theorem RdAt.len (h : RdAt b A n c ts en s w) : ts.length = n := by have := h.row.now.len; rw [tcells_length] at this; omega
theorem RdAt.cells (h : RdAt b A n c ts en s w) : w.cell? ⟨b, 0, none⟩ = some (.slice A n c) ∧ w.cell? ⟨b, 1, none⟩ = some (.int .i64 s.p) ∧ w.cell? ⟨b, 2, none⟩ = some (.int .i64 en) ∧ w.cell? ⟨b, 3, none⟩ = some (.int .i64 s.fa) ∧ w.cell? ⟨b, 4, none⟩ = some (.int .i64 s.fe) :=
  ⟨h.blk.cell 0, h.blk.cell 1, h.blk.cell 2, h.blk.cell 3, h.blk.cell 4⟩
theorem RdAt.next (h : RdAt b A n c ts en s w) (hp : s.p < n) : RdAt b A n c ts en (nextF s) (w.setCell ⟨b, 1, none⟩ (.int .i64 ((s.p : Int) + 1))) := by
  refine ⟨?_, h.row.only rfl ((Only.refl b w).set 1 _), hp⟩
  have h1 := h.blk.set 1 (.int .i64 ((s.p : Int) + 1))
  have e : ((nextF s).p : Int) = (s.p : Int) + 1 := by unfold nextF; simp
  rw [e]; exact h1
theorem RdAt.fault (h : RdAt b A n c ts en s w) (a e : Int) : RdAt b A n c ts en ⟨s.p, a, e⟩ ((w.setCell ⟨b, 3, none⟩ (.int .i64 a)).setCell ⟨b, 4, none⟩ (.int .i64 e)) :=
  ⟨(h.blk.set 3 (.int .i64 a)).set 4 (.int .i64 e), h.row.only rfl (((Only.refl b w).set 3 _).set 4 _), h.le⟩
end
set_option maxHeartbeats 2000000 in
theorem peek_any (b : Nat) (A : Option Addr) (n c : Nat) (ts : List Tok) (en : Int) (s : PS) (w : World) (h : RdAt b A n c ts en s w) :
    Calls Tryz.prog 78 #[.pointer (some ⟨b, 0, none⟩)] w fun e w' => e = .returned (peekF ts s).val ∧ Below w.heap.size w w' := by
  have HR := Lib.hid (h.alloc (.cells #[.int .i64 0, .int .i64 0, .int .i64 0, .string ⟨#[]⟩] 96))
  have HB := Lib.hid ((Below.refl w.heap.size w).alloc (Nat.le_refl _) (.cells #[.int .i64 0, .int .i64 0, .int .i64 0, .string ⟨#[]⟩] 96))
  have HK := Lib.hid (Blk.mk (heap_alloc_new w (.cells #[.int .i64 0, .int .i64 0, .int .i64 0, .string ⟨#[]⟩] 96)) : Blk _ w.heap.size 96 [.int .i64 0, .int .i64 0, .int .i64 0, .string ⟨#[]⟩])
  have HL := Lib.hid h.len
  have HG := Lib.hid (show ∃ g, w.heap.size = g from ⟨_, rfl⟩)
  clear h
  go_enter Tryz.func78, Tryz.ntmps78
  go_upto_region 1 with fail
  obtain ⟨g2, hg2'⟩ := HG.out
  rw [hg2']
  have HGE := Lib.hid hg2'
  clear HG hg2'
  generalize w.alloc (.cells #[.int .i64 0, .int .i64 0, .int .i64 0, .string ⟨#[]⟩] 96) = W1 at *
  rw [HGE.out] at HK
  by_cases hfe : s.fe = 0
  · have hf : (s.fe != 0) = false := by rw [hfe]; rfl
    obtain ⟨gb, hgb⟩ : ∃ g, decide (n ≤ s.p) = g := ⟨_, rfl⟩
    have hg1 := hgb
    have hg2 : decide ((n : Int) ≤ s.p) = gb := by rw [← hgb]; exact decide_eq_decide.2 (by omega)
    have HGB := Lib.hid hgb
    have HFE := Lib.hid hfe
    clear hgb hfe
    refine wp_region_facts (R := fun a b => Below a.heap.size a b) (G := (fun W => RdAt b A n c ts en s W ∧ Blk W g2 96 [.int .i64 0, .int .i64 0, .int .i64 0, .string ⟨#[]⟩] ∧ Below w.heap.size w W)) (V := fun i' u' W => match i' with | 0 => u' = .pointer (some ⟨b, 0, none⟩) | 1 => u' = .pointer (some ⟨b, 0, none⟩) | 2 => u' = .pointer (some ⟨b, 3, none⟩) | 3 => u' = .pointer (some ⟨b, 4, none⟩) | 4 => u' = .int .i64 s.fe | 5 => u' = .bool false | 6 => u' = .bool false | 7 => u' = .pointer (some ⟨b, 0, none⟩) | 8 => u' = .pointer (some ⟨b, 0, none⟩) | 9 => u' = .pointer (some ⟨b, 1, none⟩) | 10 => u' = .int .i64 s.p | 11 => u' = .pointer (some ⟨b, 0, none⟩) | 12 => u' = .pointer (some ⟨b, 0, none⟩) | 13 => u' = .pointer (some ⟨b, 0, none⟩) | 14 => u' = .slice A n c | 15 => u' = .int .i64 n | 16 => u' = .bool gb | 17 => u' = .bool gb | _ => True) (by kernel_rfl) (fun w => Below.refl _ _) (fun a b c h1 h2 => h1.trans (h2.mono h1.size)) (by kernel_rfl) (by kernel_rfl) ?hG ⟨?o0, ?o1, ?o2, ?o3, ?o4, ?o5, ?o6, ?o7, ?o8, ?o9, ?o10, ?o11, ?o12, ?o13, ?o14, ?o15, ?o16, ?o17, trivial⟩ ?hend
    case o0 =>
      intro a w hfr hG hd
      refine ⟨fun hw => ?_, fun hw => absurd hw (by simp [Region.wanted])⟩
      have s0 : a.tmps.getD 0 undef = .pointer (some ⟨b, 0, none⟩) := hfr.at 0 (by kernel_rfl)
      refine op_yields (.pointer (some ⟨b, 0, none⟩)) ?_ ?_ ?_
      · simp only [execOp, resolve, List.map_toArray, List.map_cons, List.map_nil, Act.eval, s0]; simp [go_sem, -Array.getD_eq_getD_getElem?, s0]
      · exact Below.refl _ _
      · exact (fun _ _ => rfl)
    case o1 =>
      intro a w hfr hG hd
      obtain ⟨d0, _⟩ := hd
      refine ⟨fun hw => ?_, fun hw => absurd hw (by simp [Region.wanted])⟩
      have s3 : a.tmps.getD 3 undef = .pointer (some ⟨b, 0, none⟩) := (d0 rfl).now
      refine op_yields (.pointer (some ⟨b, 0, none⟩)) ?_ ?_ ?_
      · simp only [execOp, resolve, List.map_toArray, List.map_cons, List.map_nil, Act.eval, s3]; simp [go_sem, -Array.getD_eq_getD_getElem?, s3]
      · exact Below.refl _ _
      · exact (fun _ _ => rfl)
    case o2 =>
      intro a w hfr hG hd
      obtain ⟨d0, _⟩ := hd
      refine ⟨fun hw => ?_, fun hw => absurd hw (by simp [Region.wanted])⟩
      have s4 : a.tmps.getD 4 undef = .pointer (some ⟨b, 0, none⟩) := (d0 rfl).now
      refine op_yields (.pointer (some ⟨b, 3, none⟩)) ?_ ?_ ?_
      · simp only [execOp, resolve, List.map_toArray, List.map_cons, List.map_nil, Act.eval, s4]; simp [go_sem, -Array.getD_eq_getD_getElem?, s4]
      · exact Below.refl _ _
      · exact (fun _ _ => rfl)
    case o3 =>
      intro a w hfr hG hd
      obtain ⟨d0, _⟩ := hd
      refine ⟨fun hw => ?_, fun hw => absurd hw (by simp [Region.wanted])⟩
      have s5 : a.tmps.getD 5 undef = .pointer (some ⟨b, 3, none⟩) := (d0 rfl).now
      refine op_yields (.pointer (some ⟨b, 4, none⟩)) ?_ ?_ ?_
      · simp only [execOp, resolve, List.map_toArray, List.map_cons, List.map_nil, Act.eval, s5]; simp [go_sem, -Array.getD_eq_getD_getElem?, s5]
      · exact Below.refl _ _
      · exact (fun _ _ => rfl)
    case o4 =>
      intro a w hfr hG hd
      obtain ⟨d0, _⟩ := hd
      refine ⟨fun hw => ?_, fun hw => absurd hw (by simp [Region.wanted])⟩
      have s6 : a.tmps.getD 6 undef = .pointer (some ⟨b, 4, none⟩) := (d0 rfl).now
      obtain ⟨r0, r1, r2, r3, r4⟩ := hG.now.1.cells
      refine op_yields (.int .i64 s.fe) ?_ ?_ ?_
      · simp only [execOp, resolve, List.map_toArray, List.map_cons, List.map_nil, Act.eval, s6]; simp [go_sem, -Array.getD_eq_getD_getElem?, s6, r4]
      · exact Below.refl _ _
      · exact (fun _ _ => rfl)
    case o5 =>
      intro a w hfr hG hd
      obtain ⟨d0, _⟩ := hd
      refine ⟨fun hw => ?_, fun hw => absurd hw (by simp [Region.wanted])⟩
      have s7 : a.tmps.getD 7 undef = .int .i64 s.fe := (d0 rfl).now
      refine op_yields (.bool false) ?_ ?_ ?_
      · simp only [execOp, resolve, List.map_toArray, List.map_cons, List.map_nil, Act.eval, s7]; simp [go_sem, -Array.getD_eq_getD_getElem?, s7, hf]
      · exact Below.refl _ _
      · exact (fun _ _ => rfl)
    case o6 =>
      intro a w hfr hG hd
      obtain ⟨d0, _⟩ := hd
      refine ⟨fun hw => ?_, fun hw => absurd hw (by simp [Region.wanted])⟩
      have s8 : a.tmps.getD 8 undef = .bool false := (d0 rfl).now
      refine op_yields (.bool false) ?_ ?_ ?_
      · simp only [execOp, resolve, List.map_toArray, List.map_cons, List.map_nil, Act.eval, s8]; simp [go_sem, -Array.getD_eq_getD_getElem?, s8]
      · exact Below.refl _ _
      · exact (fun _ _ => rfl)
    case o7 =>
      intro a w hfr hG hd
      obtain ⟨d0, _⟩ := hd
      have sg : a.tmps.getD 9 undef = .bool false := (d0 rfl).now
      refine ⟨fun hw => ?_, fun hw => by rw [wanted_of rfl (yielded_of rfl sg)] at hw; exact absurd hw (by decide)⟩
      have s0 : a.tmps.getD 0 undef = .pointer (some ⟨b, 0, none⟩) := hfr.at 0 (by kernel_rfl)
      refine op_yields (.pointer (some ⟨b, 0, none⟩)) ?_ ?_ ?_
      · simp only [execOp, resolve, List.map_toArray, List.map_cons, List.map_nil, Act.eval, s0]; simp [go_sem, -Array.getD_eq_getD_getElem?, s0]
      · exact Below.refl _ _
      · exact (fun _ _ => rfl)
    case o8 =>
      intro a w hfr hG hd
      obtain ⟨d0, d1, _⟩ := hd
      have sg : a.tmps.getD 9 undef = .bool false := (d1 rfl).now
      refine ⟨fun hw => ?_, fun hw => by rw [wanted_of rfl (yielded_of rfl sg)] at hw; exact absurd hw (by decide)⟩
      have s10 : a.tmps.getD 10 undef = .pointer (some ⟨b, 0, none⟩) := (d0 rfl).now
      refine op_yields (.pointer (some ⟨b, 0, none⟩)) ?_ ?_ ?_
      · simp only [execOp, resolve, List.map_toArray, List.map_cons, List.map_nil, Act.eval, s10]; simp [go_sem, -Array.getD_eq_getD_getElem?, s10]
      · exact Below.refl _ _
      · exact (fun _ _ => rfl)
    case o9 =>
      intro a w hfr hG hd
      obtain ⟨d0, d1, _⟩ := hd
      have sg : a.tmps.getD 9 undef = .bool false := (d1 rfl).now
      refine ⟨fun hw => ?_, fun hw => by rw [wanted_of rfl (yielded_of rfl sg)] at hw; exact absurd hw (by decide)⟩
      have s11 : a.tmps.getD 11 undef = .pointer (some ⟨b, 0, none⟩) := (d0 rfl).now
      refine op_yields (.pointer (some ⟨b, 1, none⟩)) ?_ ?_ ?_
      · simp only [execOp, resolve, List.map_toArray, List.map_cons, List.map_nil, Act.eval, s11]; simp [go_sem, -Array.getD_eq_getD_getElem?, s11]
      · exact Below.refl _ _
      · exact (fun _ _ => rfl)
    case o10 =>
      intro a w hfr hG hd
      obtain ⟨d0, d1, _⟩ := hd
      have sg : a.tmps.getD 9 undef = .bool false := (d1 rfl).now
      refine ⟨fun hw => ?_, fun hw => by rw [wanted_of rfl (yielded_of rfl sg)] at hw; exact absurd hw (by decide)⟩
      have s12 : a.tmps.getD 12 undef = .pointer (some ⟨b, 1, none⟩) := (d0 rfl).now
      obtain ⟨r0, r1, r2, r3, r4⟩ := hG.now.1.cells
      refine op_yields (.int .i64 s.p) ?_ ?_ ?_
      · simp only [execOp, resolve, List.map_toArray, List.map_cons, List.map_nil, Act.eval, s12]; simp [go_sem, -Array.getD_eq_getD_getElem?, s12, r1]
      · exact Below.refl _ _
      · exact (fun _ _ => rfl)
    case o11 =>
      intro a w hfr hG hd
      obtain ⟨d0, _⟩ := hd
      have sg : a.tmps.getD 9 undef = .bool false := (d0 rfl).now
      refine ⟨fun hw => ?_, fun hw => by rw [wanted_of rfl (yielded_of rfl sg)] at hw; exact absurd hw (by decide)⟩
      have s0 : a.tmps.getD 0 undef = .pointer (some ⟨b, 0, none⟩) := hfr.at 0 (by kernel_rfl)
      refine op_yields (.pointer (some ⟨b, 0, none⟩)) ?_ ?_ ?_
      · simp only [execOp, resolve, List.map_toArray, List.map_cons, List.map_nil, Act.eval, s0]; simp [go_sem, -Array.getD_eq_getD_getElem?, s0]
      · exact Below.refl _ _
      · exact (fun _ _ => rfl)
    case o12 =>
      intro a w hfr hG hd
      obtain ⟨d0, d1, _⟩ := hd
      have sg : a.tmps.getD 9 undef = .bool false := (d1 rfl).now
      refine ⟨fun hw => ?_, fun hw => by rw [wanted_of rfl (yielded_of rfl sg)] at hw; exact absurd hw (by decide)⟩
      have s14 : a.tmps.getD 14 undef = .pointer (some ⟨b, 0, none⟩) := (d0 rfl).now
      refine op_yields (.pointer (some ⟨b, 0, none⟩)) ?_ ?_ ?_
      · simp only [execOp, resolve, List.map_toArray, List.map_cons, List.map_nil, Act.eval, s14]; simp [go_sem, -Array.getD_eq_getD_getElem?, s14]
      · exact Below.refl _ _
      · exact (fun _ _ => rfl)
    case o13 =>
      intro a w hfr hG hd
      obtain ⟨d0, d1, _⟩ := hd
      have sg : a.tmps.getD 9 undef = .bool false := (d1 rfl).now
      refine ⟨fun hw => ?_, fun hw => by rw [wanted_of rfl (yielded_of rfl sg)] at hw; exact absurd hw (by decide)⟩
      have s15 : a.tmps.getD 15 undef = .pointer (some ⟨b, 0, none⟩) := (d0 rfl).now
      refine op_yields (.pointer (some ⟨b, 0, none⟩)) ?_ ?_ ?_
      · simp only [execOp, resolve, List.map_toArray, List.map_cons, List.map_nil, Act.eval, s15]; simp [go_sem, -Array.getD_eq_getD_getElem?, s15]
      · exact Below.refl _ _
      · exact (fun _ _ => rfl)
    case o14 =>
      intro a w hfr hG hd
      obtain ⟨d0, d1, _⟩ := hd
      have sg : a.tmps.getD 9 undef = .bool false := (d1 rfl).now
      refine ⟨fun hw => ?_, fun hw => by rw [wanted_of rfl (yielded_of rfl sg)] at hw; exact absurd hw (by decide)⟩
      have s16 : a.tmps.getD 16 undef = .pointer (some ⟨b, 0, none⟩) := (d0 rfl).now
      obtain ⟨r0, r1, r2, r3, r4⟩ := hG.now.1.cells
      refine op_yields (.slice A n c) ?_ ?_ ?_
      · simp only [execOp, resolve, List.map_toArray, List.map_cons, List.map_nil, Act.eval, s16]; simp [go_sem, -Array.getD_eq_getD_getElem?, s16, r0]
      · exact Below.refl _ _
      · exact (fun _ _ => rfl)
    case o15 =>
      intro a w hfr hG hd
      obtain ⟨d0, d1, _⟩ := hd
      have sg : a.tmps.getD 9 undef = .bool false := (d1 rfl).now
      refine ⟨fun hw => ?_, fun hw => by rw [wanted_of rfl (yielded_of rfl sg)] at hw; exact absurd hw (by decide)⟩
      have s17 : a.tmps.getD 17 undef = .slice A n c := (d0 rfl).now
      refine op_yields (.int .i64 n) ?_ ?_ ?_
      · simp only [execOp, resolve, List.map_toArray, List.map_cons, List.map_nil, Act.eval, s17]; simp [go_sem, -Array.getD_eq_getD_getElem?, s17]
      · exact Below.refl _ _
      · exact (fun _ _ => rfl)
    case o16 =>
      intro a w hfr hG hd
      obtain ⟨d0, d1, d2, _⟩ := hd
      have sg : a.tmps.getD 9 undef = .bool false := (d2 rfl).now
      refine ⟨fun hw => ?_, fun hw => by rw [wanted_of rfl (yielded_of rfl sg)] at hw; exact absurd hw (by decide)⟩
      have s13 : a.tmps.getD 13 undef = .int .i64 s.p := (d0 rfl).now
      have s18 : a.tmps.getD 18 undef = .int .i64 n := (d1 rfl).now
      refine op_yields (.bool gb) ?_ ?_ ?_
      · simp only [execOp, resolve, List.map_toArray, List.map_cons, List.map_nil, Act.eval, s13, s18]; simp [go_sem, -Array.getD_eq_getD_getElem?, s13, s18, hg1, hg2]
      · exact Below.refl _ _
      · exact (fun _ _ => rfl)
    case o17 =>
      intro a w hfr hG hd
      obtain ⟨d0, d1, _⟩ := hd
      refine ⟨fun hw => ?_, fun hw => absurd hw (by simp [Region.wanted])⟩
      have s9 : a.tmps.getD 9 undef = .bool false := (d0 rfl).now
      have s19 : a.tmps.getD 19 undef = .bool gb := (d1 rfl).now
      refine op_yields (.bool gb) ?_ ?_ ?_
      · simp only [execOp, resolve, List.map_toArray, List.map_cons, List.map_nil, Act.eval, s9, s19]; simp [go_sem, -Array.getD_eq_getD_getElem?, s9, s19]
      · exact Below.refl _ _
      · exact (fun _ _ => rfl)
    case hG => exact fun w' hb => ⟨HR.out.below ((Below.refl _ _).drew.trans (hb.mono (by simp))), HK.out.below ((Below.refl _ _).drew.trans (hb.mono (by simp))) HK.out.lt, HB.out.trans ((Below.refl _ _).drew.trans (hb.mono (by simp; exact HB.out.size)))⟩
    case hend =>
      intro vs w' hG hv
      have key : vs 17 = .bool gb := by
        obtain ⟨_, _, _, _, _, _, _, _, _, _, _, _, _, _, _, _, _, h17, _⟩ := hv
        exact h17.now
      obtain ⟨hr, hk, hb⟩ := hG.now
      have HR2 := Lib.hid hr; have HK2 := Lib.hid hk; have HB2 := Lib.hid hb
      clear hv hG hr hk hb HR HK HB hg1 hg2 hf
      simp only [putAll, Act.put, key]
      clear key
      go_simp
      have hgl : w.heap.size ≤ g2 := by rw [HGE.out]; exact Nat.le_refl _
      cases gb with
      | true =>
        have HE := Lib.hid (show peekF ts s = zeroT by
          unfold peekF
          rw [if_pos HFE.out, List.getElem?_eq_none (by rw [HL.out]; exact of_decide_eq_true HGB.out)]; rfl)
        obtain ⟨c0, c1, c2, c3⟩ := blk_cells4 HK2.out
        have f0 := HK2.out.frozen 0
        have f1 := HK2.out.frozen 1
        have f2 := HK2.out.frozen 2
        have f3 := HK2.out.frozen 3
        have HKZ := Lib.hid (set4W_blk HK2.out (.int .i64 0) (.int .i64 0) (.int .i64 0) (.string ⟨#[]⟩))
        have HBZ := Lib.hid (set4W_below HB2.out hgl (.int .i64 0) (.int .i64 0) (.int .i64 0) (.string ⟨#[]⟩))
        go_wp2_with fail
        obtain ⟨q0, q1, q2, q3⟩ := blk_cells4 HKZ.out
        have hbz := HBZ.out
        unfold set4W at q0 q1 q2 q3 hbz
        refine bodyPost_ret (v := .agg #[.int .i64 0, .int .i64 0, .int .i64 0, .string ⟨#[]⟩]) (by simp [results, Tryz.results78, go_sem, q0, q1, q2, q3]) rfl ?_
        exact ⟨by rw [HE.out]; rfl, hbz⟩
      | false =>
        have hp : s.p < n := by have := of_decide_eq_false HGB.out; omega
        obtain ⟨ad, hpl, rfl, _⟩ := (Sees.tok (HR2.out.row.now) hp)
        have HTK := Lib.hid (show ∀ V : World, RdAt b (some ad) n c ts en s V → V.cell? (ad.add (s.p * 4)) = some (.int .i64 ts[s.p].kd) ∧ V.cell? ⟨(ad.add (s.p * 4)).block, (ad.add (s.p * 4)).off + 1, none⟩ = some (.int .i64 ts[s.p].n) ∧ V.cell? ⟨(ad.add (s.p * 4)).block, (ad.add (s.p * 4)).off + 2, none⟩ = some (.int .i64 ts[s.p].at_) ∧ V.cell? ⟨(ad.add (s.p * 4)).block, (ad.add (s.p * 4)).off + 3, none⟩ = some (.string ts[s.p].tx) from fun V hV => by
          obtain ⟨ad', _, h1, h2, h3, h4, h5⟩ := Sees.tok hV.row.now hp
          injection h1 with h1; subst h1
          exact ⟨h2, h3, h4, h5⟩)
        have HE := Lib.hid (show peekF ts s = ts[s.p] by unfold peekF; rw [if_pos HFE.out, List.getElem?_eq_getElem hpl]; rfl)
        generalize ts[s.p] = t at *
        have hp0 : (0 : Int) ≤ s.p := by omega
        have hp1 : (s.p : Int) < n := by omega
        go_upto_region 3 with fail
        refine wp_region_facts_tail 10 (R := fun a b => Below a.heap.size a b) (G := (fun W => RdAt b (some ad) n c ts en s W ∧ Blk W g2 96 [.int .i64 0, .int .i64 0, .int .i64 0, .string ⟨#[]⟩] ∧ Below w.heap.size w W)) (V := fun i' u' W => match i' with | 0 => u' = .pointer (some ⟨b, 0, none⟩) | 1 => u' = .pointer (some ⟨b, 0, none⟩) | 2 => u' = .pointer (some ⟨b, 0, none⟩) | 3 => u' = .slice (some ad) n c | 4 => u' = .pointer (some ⟨b, 0, none⟩) | 5 => u' = .pointer (some ⟨b, 0, none⟩) | 6 => u' = .pointer (some ⟨b, 1, none⟩) | 7 => u' = .int .i64 s.p | 8 => u' = .pointer (some (ad.add (s.p * 4))) | 9 => u' = .agg #[.int .i64 t.kd, .int .i64 t.n, .int .i64 t.at_, .string t.tx] | _ => True) (by kernel_rfl) (fun w => Below.refl _ _) (fun a b c h1 h2 => h1.trans (h2.mono h1.size)) (by kernel_rfl) (by kernel_rfl) (by kernel_rfl) (by kernel_rfl) (by decide) (by kernel_rfl) ?hG ⟨?o0, ?o1, ?o2, ?o3, ?o4, ?o5, ?o6, ?o7, ?o8, ?o9, trivial⟩ ?hend
        case o0 =>
          intro a w hfr hG hd
          refine ⟨fun hw => ?_, fun hw => absurd hw (by simp [Region.wanted])⟩
          have s0 : a.tmps.getD 0 undef = .pointer (some ⟨b, 0, none⟩) := hfr.at 0 (by kernel_rfl)
          refine op_yields (.pointer (some ⟨b, 0, none⟩)) ?_ ?_ ?_
          · simp only [execOp, resolve, List.map_toArray, List.map_cons, List.map_nil, Act.eval, s0]; simp [go_sem, -Array.getD_eq_getD_getElem?, s0]
          · exact Below.refl _ _
          · exact (fun _ _ => rfl)
        case o1 =>
          intro a w hfr hG hd
          obtain ⟨d0, _⟩ := hd
          refine ⟨fun hw => ?_, fun hw => absurd hw (by simp [Region.wanted])⟩
          have s22 : a.tmps.getD 22 undef = .pointer (some ⟨b, 0, none⟩) := (d0 rfl).now
          refine op_yields (.pointer (some ⟨b, 0, none⟩)) ?_ ?_ ?_
          · simp only [execOp, resolve, List.map_toArray, List.map_cons, List.map_nil, Act.eval, s22]; simp [go_sem, -Array.getD_eq_getD_getElem?, s22]
          · exact Below.refl _ _
          · exact (fun _ _ => rfl)
        case o2 =>
          intro a w hfr hG hd
          obtain ⟨d0, _⟩ := hd
          refine ⟨fun hw => ?_, fun hw => absurd hw (by simp [Region.wanted])⟩
          have s23 : a.tmps.getD 23 undef = .pointer (some ⟨b, 0, none⟩) := (d0 rfl).now
          refine op_yields (.pointer (some ⟨b, 0, none⟩)) ?_ ?_ ?_
          · simp only [execOp, resolve, List.map_toArray, List.map_cons, List.map_nil, Act.eval, s23]; simp [go_sem, -Array.getD_eq_getD_getElem?, s23]
          · exact Below.refl _ _
          · exact (fun _ _ => rfl)
        case o3 =>
          intro a w hfr hG hd
          obtain ⟨d0, _⟩ := hd
          refine ⟨fun hw => ?_, fun hw => absurd hw (by simp [Region.wanted])⟩
          have s24 : a.tmps.getD 24 undef = .pointer (some ⟨b, 0, none⟩) := (d0 rfl).now
          obtain ⟨r0, r1, r2, r3, r4⟩ := hG.now.1.cells
          refine op_yields (.slice (some ad) n c) ?_ ?_ ?_
          · simp only [execOp, resolve, List.map_toArray, List.map_cons, List.map_nil, Act.eval, s24]; simp [go_sem, -Array.getD_eq_getD_getElem?, s24, r0]
          · exact Below.refl _ _
          · exact (fun _ _ => rfl)
        case o4 =>
          intro a w hfr hG hd
          refine ⟨fun hw => ?_, fun hw => absurd hw (by simp [Region.wanted])⟩
          have s0 : a.tmps.getD 0 undef = .pointer (some ⟨b, 0, none⟩) := hfr.at 0 (by kernel_rfl)
          refine op_yields (.pointer (some ⟨b, 0, none⟩)) ?_ ?_ ?_
          · simp only [execOp, resolve, List.map_toArray, List.map_cons, List.map_nil, Act.eval, s0]; simp [go_sem, -Array.getD_eq_getD_getElem?, s0]
          · exact Below.refl _ _
          · exact (fun _ _ => rfl)
        case o5 =>
          intro a w hfr hG hd
          obtain ⟨d0, _⟩ := hd
          refine ⟨fun hw => ?_, fun hw => absurd hw (by simp [Region.wanted])⟩
          have s26 : a.tmps.getD 26 undef = .pointer (some ⟨b, 0, none⟩) := (d0 rfl).now
          refine op_yields (.pointer (some ⟨b, 0, none⟩)) ?_ ?_ ?_
          · simp only [execOp, resolve, List.map_toArray, List.map_cons, List.map_nil, Act.eval, s26]; simp [go_sem, -Array.getD_eq_getD_getElem?, s26]
          · exact Below.refl _ _
          · exact (fun _ _ => rfl)
        case o6 =>
          intro a w hfr hG hd
          obtain ⟨d0, _⟩ := hd
          refine ⟨fun hw => ?_, fun hw => absurd hw (by simp [Region.wanted])⟩
          have s27 : a.tmps.getD 27 undef = .pointer (some ⟨b, 0, none⟩) := (d0 rfl).now
          refine op_yields (.pointer (some ⟨b, 1, none⟩)) ?_ ?_ ?_
          · simp only [execOp, resolve, List.map_toArray, List.map_cons, List.map_nil, Act.eval, s27]; simp [go_sem, -Array.getD_eq_getD_getElem?, s27]
          · exact Below.refl _ _
          · exact (fun _ _ => rfl)
        case o7 =>
          intro a w hfr hG hd
          obtain ⟨d0, _⟩ := hd
          refine ⟨fun hw => ?_, fun hw => absurd hw (by simp [Region.wanted])⟩
          have s28 : a.tmps.getD 28 undef = .pointer (some ⟨b, 1, none⟩) := (d0 rfl).now
          obtain ⟨r0, r1, r2, r3, r4⟩ := hG.now.1.cells
          refine op_yields (.int .i64 s.p) ?_ ?_ ?_
          · simp only [execOp, resolve, List.map_toArray, List.map_cons, List.map_nil, Act.eval, s28]; simp [go_sem, -Array.getD_eq_getD_getElem?, s28, r1]
          · exact Below.refl _ _
          · exact (fun _ _ => rfl)
        case o8 =>
          intro a w hfr hG hd
          obtain ⟨d0, d1, _⟩ := hd
          refine ⟨fun hw => ?_, fun hw => absurd hw (by simp [Region.wanted])⟩
          have s25 : a.tmps.getD 25 undef = .slice (some ad) n c := (d0 rfl).now
          have s29 : a.tmps.getD 29 undef = .int .i64 s.p := (d1 rfl).now
          refine op_yields (.pointer (some (ad.add (s.p * 4)))) ?_ ?_ ?_
          · simp only [execOp, resolve, List.map_toArray, List.map_cons, List.map_nil, Act.eval, s25, s29]; simp [go_sem, -Array.getD_eq_getD_getElem?, s25, s29, hp0, hp1]
          · exact Below.refl _ _
          · exact (fun _ _ => rfl)
        case o9 =>
          intro a w hfr hG hd
          obtain ⟨d0, _⟩ := hd
          refine ⟨fun hw => ?_, fun hw => absurd hw (by simp [Region.wanted])⟩
          have s30 : a.tmps.getD 30 undef = .pointer (some (ad.add (s.p * 4))) := (d0 rfl).now
          obtain ⟨k0, k1, k2, k3⟩ := HTK.out w hG.now.1
          refine op_yields (.agg #[.int .i64 t.kd, .int .i64 t.n, .int .i64 t.at_, .string t.tx]) ?_ ?_ ?_
          · simp only [execOp, resolve, List.map_toArray, List.map_cons, List.map_nil, Act.eval, s30]; simp [go_sem, -Array.getD_eq_getD_getElem?, s30, k0, k1, k2, k3]
          · exact Below.refl _ _
          · exact (fun _ _ => rfl)
        case hG => exact fun w' hb => ⟨HR2.out.below ((Below.refl _ _).drew.trans (hb.mono (by simp))), HK2.out.below ((Below.refl _ _).drew.trans (hb.mono (by simp))) HK2.out.lt, HB2.out.trans ((Below.refl _ _).drew.trans (hb.mono (by simp; exact HB2.out.size)))⟩
        case hend =>
          intro vs w' hG hv
          have key : vs 9 = .agg #[.int .i64 t.kd, .int .i64 t.n, .int .i64 t.at_, .string t.tx] := by
            obtain ⟨_, _, _, _, _, _, _, _, _, h9, _⟩ := hv
            exact h9.now
          obtain ⟨hr, hk, hb⟩ := hG.now
          have HK3 := Lib.hid hk; have HB3 := Lib.hid hb
          clear hv hG hr hk hb HR2 HK2 HB2 HTK
          obtain ⟨c0, c1, c2, c3⟩ := blk_cells4 HK3.out
          have f0 := HK3.out.frozen 0
          have f1 := HK3.out.frozen 1
          have f2 := HK3.out.frozen 2
          have f3 := HK3.out.frozen 3
          have HKZ := Lib.hid (set4W_blk HK3.out (.int .i64 t.kd) (.int .i64 t.n) (.int .i64 t.at_) (.string t.tx))
          have HBZ := Lib.hid (set4W_below HB3.out hgl (.int .i64 t.kd) (.int .i64 t.n) (.int .i64 t.at_) (.string t.tx))
          change wpList _ _ _ [_] (putAll vs 0 [_, _, _, _, _, _, _, _, _, _] _) _
          simp only [putAll, Act.put, key]
          clear key
          go_wp2_with fail
          obtain ⟨q0, q1, q2, q3⟩ := blk_cells4 HKZ.out
          have hbz := HBZ.out
          unfold set4W at q0 q1 q2 q3 hbz
          refine bodyPost_ret (v := .agg #[.int .i64 t.kd, .int .i64 t.n, .int .i64 t.at_, .string t.tx]) (by simp [results, Tryz.results78, go_sem, q0, q1, q2, q3]) rfl ?_
          exact ⟨by rw [HE.out]; rfl, hbz⟩
  · have hf : (s.fe != 0) = true := by rw [bne, beq_eq_false_iff_ne.2 hfe]; rfl
    have HE := Lib.hid (show peekF ts s = zeroT by unfold peekF; rw [if_neg hfe])
    clear hfe
    refine wp_region_facts (R := fun a b => Below a.heap.size a b) (G := (fun W => RdAt b A n c ts en s W ∧ Blk W g2 96 [.int .i64 0, .int .i64 0, .int .i64 0, .string ⟨#[]⟩] ∧ Below w.heap.size w W)) (V := fun i' u' W => match i' with | 0 => u' = .pointer (some ⟨b, 0, none⟩) | 1 => u' = .pointer (some ⟨b, 0, none⟩) | 2 => u' = .pointer (some ⟨b, 3, none⟩) | 3 => u' = .pointer (some ⟨b, 4, none⟩) | 4 => u' = .int .i64 s.fe | 5 => u' = .bool true | 6 => u' = .bool true | 7 => True | 8 => True | 9 => True | 10 => True | 11 => True | 12 => True | 13 => True | 14 => True | 15 => True | 16 => True | 17 => u' = .bool true | _ => True) (by kernel_rfl) (fun w => Below.refl _ _) (fun a b c h1 h2 => h1.trans (h2.mono h1.size)) (by kernel_rfl) (by kernel_rfl) ?hG ⟨?o0, ?o1, ?o2, ?o3, ?o4, ?o5, ?o6, ?o7, ?o8, ?o9, ?o10, ?o11, ?o12, ?o13, ?o14, ?o15, ?o16, ?o17, trivial⟩ ?hend
    case o0 =>
      intro a w hfr hG hd
      refine ⟨fun hw => ?_, fun hw => absurd hw (by simp [Region.wanted])⟩
      have s0 : a.tmps.getD 0 undef = .pointer (some ⟨b, 0, none⟩) := hfr.at 0 (by kernel_rfl)
      refine op_yields (.pointer (some ⟨b, 0, none⟩)) ?_ ?_ ?_
      · simp only [execOp, resolve, List.map_toArray, List.map_cons, List.map_nil, Act.eval, s0]; simp [go_sem, -Array.getD_eq_getD_getElem?, s0]
      · exact Below.refl _ _
      · exact (fun _ _ => rfl)
    case o1 =>
      intro a w hfr hG hd
      obtain ⟨d0, _⟩ := hd
      refine ⟨fun hw => ?_, fun hw => absurd hw (by simp [Region.wanted])⟩
      have s3 : a.tmps.getD 3 undef = .pointer (some ⟨b, 0, none⟩) := (d0 rfl).now
      refine op_yields (.pointer (some ⟨b, 0, none⟩)) ?_ ?_ ?_
      · simp only [execOp, resolve, List.map_toArray, List.map_cons, List.map_nil, Act.eval, s3]; simp [go_sem, -Array.getD_eq_getD_getElem?, s3]
      · exact Below.refl _ _
      · exact (fun _ _ => rfl)
    case o2 =>
      intro a w hfr hG hd
      obtain ⟨d0, _⟩ := hd
      refine ⟨fun hw => ?_, fun hw => absurd hw (by simp [Region.wanted])⟩
      have s4 : a.tmps.getD 4 undef = .pointer (some ⟨b, 0, none⟩) := (d0 rfl).now
      refine op_yields (.pointer (some ⟨b, 3, none⟩)) ?_ ?_ ?_
      · simp only [execOp, resolve, List.map_toArray, List.map_cons, List.map_nil, Act.eval, s4]; simp [go_sem, -Array.getD_eq_getD_getElem?, s4]
      · exact Below.refl _ _
      · exact (fun _ _ => rfl)
    case o3 =>
      intro a w hfr hG hd
      obtain ⟨d0, _⟩ := hd
      refine ⟨fun hw => ?_, fun hw => absurd hw (by simp [Region.wanted])⟩
      have s5 : a.tmps.getD 5 undef = .pointer (some ⟨b, 3, none⟩) := (d0 rfl).now
      refine op_yields (.pointer (some ⟨b, 4, none⟩)) ?_ ?_ ?_
      · simp only [execOp, resolve, List.map_toArray, List.map_cons, List.map_nil, Act.eval, s5]; simp [go_sem, -Array.getD_eq_getD_getElem?, s5]
      · exact Below.refl _ _
      · exact (fun _ _ => rfl)
    case o4 =>
      intro a w hfr hG hd
      obtain ⟨d0, _⟩ := hd
      refine ⟨fun hw => ?_, fun hw => absurd hw (by simp [Region.wanted])⟩
      have s6 : a.tmps.getD 6 undef = .pointer (some ⟨b, 4, none⟩) := (d0 rfl).now
      obtain ⟨r0, r1, r2, r3, r4⟩ := hG.now.1.cells
      refine op_yields (.int .i64 s.fe) ?_ ?_ ?_
      · simp only [execOp, resolve, List.map_toArray, List.map_cons, List.map_nil, Act.eval, s6]; simp [go_sem, -Array.getD_eq_getD_getElem?, s6, r4]
      · exact Below.refl _ _
      · exact (fun _ _ => rfl)
    case o5 =>
      intro a w hfr hG hd
      obtain ⟨d0, _⟩ := hd
      refine ⟨fun hw => ?_, fun hw => absurd hw (by simp [Region.wanted])⟩
      have s7 : a.tmps.getD 7 undef = .int .i64 s.fe := (d0 rfl).now
      refine op_yields (.bool true) ?_ ?_ ?_
      · simp only [execOp, resolve, List.map_toArray, List.map_cons, List.map_nil, Act.eval, s7]; simp [go_sem, -Array.getD_eq_getD_getElem?, s7, hf]
      · exact Below.refl _ _
      · exact (fun _ _ => rfl)
    case o6 =>
      intro a w hfr hG hd
      obtain ⟨d0, _⟩ := hd
      refine ⟨fun hw => ?_, fun hw => absurd hw (by simp [Region.wanted])⟩
      have s8 : a.tmps.getD 8 undef = .bool true := (d0 rfl).now
      refine op_yields (.bool true) ?_ ?_ ?_
      · simp only [execOp, resolve, List.map_toArray, List.map_cons, List.map_nil, Act.eval, s8]; simp [go_sem, -Array.getD_eq_getD_getElem?, s8]
      · exact Below.refl _ _
      · exact (fun _ _ => rfl)
    case o7 =>
      intro a w hfr hG hd
      obtain ⟨d0, _⟩ := hd
      have sg : a.tmps.getD 9 undef = .bool true := (d0 rfl).now
      refine ⟨fun hw => ?_, fun hw => fun _ _ => trivial⟩
      rw [wanted_of rfl (yielded_of rfl sg)] at hw; exact absurd hw (by decide)
    case o8 =>
      intro a w hfr hG hd
      obtain ⟨d0, d1, _⟩ := hd
      have sg : a.tmps.getD 9 undef = .bool true := (d1 rfl).now
      refine ⟨fun hw => ?_, fun hw => fun _ _ => trivial⟩
      rw [wanted_of rfl (yielded_of rfl sg)] at hw; exact absurd hw (by decide)
    case o9 =>
      intro a w hfr hG hd
      obtain ⟨d0, d1, _⟩ := hd
      have sg : a.tmps.getD 9 undef = .bool true := (d1 rfl).now
      refine ⟨fun hw => ?_, fun hw => fun _ _ => trivial⟩
      rw [wanted_of rfl (yielded_of rfl sg)] at hw; exact absurd hw (by decide)
    case o10 =>
      intro a w hfr hG hd
      obtain ⟨d0, d1, _⟩ := hd
      have sg : a.tmps.getD 9 undef = .bool true := (d1 rfl).now
      refine ⟨fun hw => ?_, fun hw => fun _ _ => trivial⟩
      rw [wanted_of rfl (yielded_of rfl sg)] at hw; exact absurd hw (by decide)
    case o11 =>
      intro a w hfr hG hd
      obtain ⟨d0, _⟩ := hd
      have sg : a.tmps.getD 9 undef = .bool true := (d0 rfl).now
      refine ⟨fun hw => ?_, fun hw => fun _ _ => trivial⟩
      rw [wanted_of rfl (yielded_of rfl sg)] at hw; exact absurd hw (by decide)
    case o12 =>
      intro a w hfr hG hd
      obtain ⟨d0, d1, _⟩ := hd
      have sg : a.tmps.getD 9 undef = .bool true := (d1 rfl).now
      refine ⟨fun hw => ?_, fun hw => fun _ _ => trivial⟩
      rw [wanted_of rfl (yielded_of rfl sg)] at hw; exact absurd hw (by decide)
    case o13 =>
      intro a w hfr hG hd
      obtain ⟨d0, d1, _⟩ := hd
      have sg : a.tmps.getD 9 undef = .bool true := (d1 rfl).now
      refine ⟨fun hw => ?_, fun hw => fun _ _ => trivial⟩
      rw [wanted_of rfl (yielded_of rfl sg)] at hw; exact absurd hw (by decide)
    case o14 =>
      intro a w hfr hG hd
      obtain ⟨d0, d1, _⟩ := hd
      have sg : a.tmps.getD 9 undef = .bool true := (d1 rfl).now
      refine ⟨fun hw => ?_, fun hw => fun _ _ => trivial⟩
      rw [wanted_of rfl (yielded_of rfl sg)] at hw; exact absurd hw (by decide)
    case o15 =>
      intro a w hfr hG hd
      obtain ⟨d0, d1, _⟩ := hd
      have sg : a.tmps.getD 9 undef = .bool true := (d1 rfl).now
      refine ⟨fun hw => ?_, fun hw => fun _ _ => trivial⟩
      rw [wanted_of rfl (yielded_of rfl sg)] at hw; exact absurd hw (by decide)
    case o16 =>
      intro a w hfr hG hd
      obtain ⟨d0, d1, d2, _⟩ := hd
      have sg : a.tmps.getD 9 undef = .bool true := (d2 rfl).now
      refine ⟨fun hw => ?_, fun hw => fun _ _ => trivial⟩
      rw [wanted_of rfl (yielded_of rfl sg)] at hw; exact absurd hw (by decide)
    case o17 =>
      intro a w hfr hG hd
      obtain ⟨d0, d1, _⟩ := hd
      refine ⟨fun hw => ?_, fun hw => absurd hw (by simp [Region.wanted])⟩
      have s9 : a.tmps.getD 9 undef = .bool true := (d0 rfl).now
      refine op_yields (.bool true) ?_ ?_ ?_
      · simp only [execOp, resolve, List.map_toArray, List.map_cons, List.map_nil, Act.eval, s9]; simp [go_sem, -Array.getD_eq_getD_getElem?, s9]
      · exact Below.refl _ _
      · exact (fun _ _ => rfl)
    case hG => exact fun w' hb => ⟨HR.out.below ((Below.refl _ _).drew.trans (hb.mono (by simp))), HK.out.below ((Below.refl _ _).drew.trans (hb.mono (by simp))) HK.out.lt, HB.out.trans ((Below.refl _ _).drew.trans (hb.mono (by simp; exact HB.out.size)))⟩
    case hend =>
      intro vs w' hG hv
      have key : vs 17 = .bool true := by
        obtain ⟨_, _, _, _, _, _, _, _, _, _, _, _, _, _, _, _, _, h17, _⟩ := hv
        exact h17.now
      obtain ⟨hr, hk, hb⟩ := hG.now
      have HK2 := Lib.hid hk; have HB2 := Lib.hid hb
      clear hv hG hr hk hb HR HK HB hf
      simp only [putAll, Act.put, key]
      clear key
      go_simp
      have hgl : w.heap.size ≤ g2 := by rw [HGE.out]; exact Nat.le_refl _
      obtain ⟨c0, c1, c2, c3⟩ := blk_cells4 HK2.out
      have f0 := HK2.out.frozen 0
      have f1 := HK2.out.frozen 1
      have f2 := HK2.out.frozen 2
      have f3 := HK2.out.frozen 3
      have HKZ := Lib.hid (set4W_blk HK2.out (.int .i64 0) (.int .i64 0) (.int .i64 0) (.string ⟨#[]⟩))
      have HBZ := Lib.hid (set4W_below HB2.out hgl (.int .i64 0) (.int .i64 0) (.int .i64 0) (.string ⟨#[]⟩))
      go_wp2_with fail
      obtain ⟨q0, q1, q2, q3⟩ := blk_cells4 HKZ.out
      have hbz := HBZ.out
      unfold set4W at q0 q1 q2 q3 hbz
      refine bodyPost_ret (v := .agg #[.int .i64 0, .int .i64 0, .int .i64 0, .string ⟨#[]⟩]) (by simp [results, Tryz.results78, go_sem, q0, q1, q2, q3]) rfl ?_
      exact ⟨by rw [HE.out]; rfl, hbz⟩
end Go.Proofs.YtcaapbbbekggiaaGreatDoor

namespace Go.Proofs.YtcaapbbbekggiaaGreatDoor
open Go.ChangeShapes Go.WideShapes Go.ChangeAt Go.RowKit
set_option linter.unusedVariables false
set_option linter.unusedSimpArgs false
set_option maxRecDepth 100000
/-- A call moved the reader to here. -/
structure Moved (b : Nat) (A : Option Addr) (n c : Nat) (ts : List Tok) (en : Int) (s : PS) (w w' : World) : Prop where
  rd : RdAt b A n c ts en s w'
  only : Only b w w'
theorem peekF_lt {ts : List Tok} {s : PS} (h : (peekF ts s).kd ≠ 0) : s.fe = 0 ∧ s.p < ts.length := by
  unfold peekF at h
  by_cases hf : s.fe = 0
  · rw [if_pos hf] at h
    refine ⟨hf, ?_⟩
    rcases Nat.lt_or_ge s.p ts.length with h1 | h1
    · exact h1
    · rw [List.getElem?_eq_none h1] at h; exact absurd rfl h
  · rw [if_neg hf] at h; exact absurd rfl h
theorem isF_lt {ts : List Tok} {s : PS} {kd : Int} {tx : ByteArray} (hk : kd ≠ 0) (h : isF ts s kd tx = true) : s.fe = 0 ∧ s.p < ts.length := by
  refine peekF_lt ?_
  unfold isF Tok.same at h
  rw [Bool.and_eq_true] at h
  have := of_decide_eq_true h.1
  rw [this]; exact hk
theorem Only.setNew {b g : Nat} {w w' : World} (h : Only b w w') (hg : w.heap.size ≤ g) (i : Nat) (u : Value) : Only b w (w'.setCell ⟨g, i, none⟩ u) := by
  have h1 : w'.grownBy (w'.setCell ⟨g, i, none⟩ u) (some g) := only_setCell (World.grownBy.refl w' (some g)) (p := ⟨g, i, none⟩) (.inl rfl) u
  exact ⟨Nat.le_trans h.size h1.size, h.os, h.tape, h.output, fun q hq hn => (h1.block q (Nat.lt_of_lt_of_le hq h.size) (fun e => by injection e with e; omega)).trans (h.block q hq hn)⟩
theorem RdAt.of {b n c : Nat} {A : Option Addr} {ts : List Tok} {en : Int} {s s' : PS} {w V : World} (h : RdAt b A n c ts en s w) (hb : Blk V b 103 [.slice A n c, .int .i64 s'.p, .int .i64 en, .int .i64 s'.fa, .int .i64 s'.fe]) (ho : Only b w V) (hp : s'.p ≤ n) : RdAt b A n c ts en s' V :=
  ⟨hb, h.row.only rfl ho, hp⟩
theorem Blk.only {g b : Nat} {t : TypeId} {cs : List Value} {w w' : World} (h : Blk w g t cs) (ho : Only b w w') (hg : g ≠ b) : Blk w' g t cs := (ho.block g h.lt hg).trans h.eq
theorem Only.set4 {b g : Nat} {w w' : World} (h : Only b w w') (hg : w.heap.size ≤ g) (v0 v1 v2 v3 : Value) : Only b w (set4W w' g v0 v1 v2 v3) := (((h.setNew hg 0 v0).setNew hg 1 v1).setNew hg 2 v2).setNew hg 3 v3
theorem Blk.far4 {g q : Nat} {t : TypeId} {cs : List Value} {w : World} (h : Blk w q t cs) (hq : q ≠ g) (v0 v1 v2 v3 : Value) : Blk (set4W w g v0 v1 v2 v3) q t cs := (((h.far (p := ⟨g, 0, none⟩) hq v0).far (p := ⟨g, 1, none⟩) hq v1).far (p := ⟨g, 2, none⟩) hq v2).far (p := ⟨g, 3, none⟩) hq v3
set_option maxHeartbeats 2000000 in
theorem fail_any (b : Nat) (A : Option Addr) (n c : Nat) (ts : List Tok) (en : Int) (s : PS) (err : Int) (w : World) (h : RdAt b A n c ts en s w) :
    Calls Tryz.prog 67 #[.pointer (some ⟨b, 0, none⟩), .int .i64 err] w fun e w' => e = .returned (.tuple #[]) ∧ Moved b A n c ts en (failF ts en s err) w w' := by
  have HR := Lib.hid h
  have HL := Lib.hid h.len
  clear h
  go_enter Tryz.func67, Tryz.ntmps67
  obtain ⟨c0, c1, c2, c3, c4⟩ := HR.out.cells
  by_cases hfe : s.fe = 0
  · have hf : (s.fe != 0) = false := by rw [hfe]; rfl
    obtain ⟨lb, hlb⟩ : ∃ g, decide (s.p < n) = g := ⟨_, rfl⟩
    have hg1 := hlb
    have hg2 : decide ((s.p : Int) < n) = lb := by rw [← hlb]; exact decide_eq_decide.2 (by omega)
    have HGB := Lib.hid hlb
    have HFE := Lib.hid hfe
    clear hlb hfe
    go_upto_region 2 with fail
    clear c0 c1 c2 c3 c4
    refine wp_region_facts (R := fun a b => Below a.heap.size a b) (G := (fun W => RdAt b A n c ts en s W ∧ Below w.heap.size w W)) (V := fun i' u' W => match i' with | 0 => u' = .pointer (some ⟨b, 0, none⟩) | 1 => u' = .pointer (some ⟨b, 0, none⟩) | 2 => u' = .pointer (some ⟨b, 1, none⟩) | 3 => u' = .int .i64 s.p | 4 => u' = .pointer (some ⟨b, 0, none⟩) | 5 => u' = .pointer (some ⟨b, 0, none⟩) | 6 => u' = .pointer (some ⟨b, 0, none⟩) | 7 => u' = .slice A n c | 8 => u' = .int .i64 n | 9 => u' = .bool lb | _ => True) (by kernel_rfl) (fun w => Below.refl _ _) (fun a b c h1 h2 => h1.trans (h2.mono h1.size)) (by kernel_rfl) (by kernel_rfl) ?hG ⟨?o0, ?o1, ?o2, ?o3, ?o4, ?o5, ?o6, ?o7, ?o8, ?o9, trivial⟩ ?hend
    case o0 =>
      intro a w hfr hG hd
      refine ⟨fun hw => ?_, fun hw => absurd hw (by simp [Region.wanted])⟩
      have s0 : a.tmps.getD 0 undef = .pointer (some ⟨b, 0, none⟩) := hfr.at 0 (by kernel_rfl)
      refine op_yields (.pointer (some ⟨b, 0, none⟩)) ?_ ?_ ?_
      · simp only [execOp, resolve, List.map_toArray, List.map_cons, List.map_nil, Act.eval, s0]; simp [go_sem, -Array.getD_eq_getD_getElem?, s0]
      · exact Below.refl _ _
      · exact (fun _ _ => rfl)
    case o1 =>
      intro a w hfr hG hd
      obtain ⟨d0, _⟩ := hd
      refine ⟨fun hw => ?_, fun hw => absurd hw (by simp [Region.wanted])⟩
      have s15 : a.tmps.getD 15 undef = .pointer (some ⟨b, 0, none⟩) := (d0 rfl).now
      refine op_yields (.pointer (some ⟨b, 0, none⟩)) ?_ ?_ ?_
      · simp only [execOp, resolve, List.map_toArray, List.map_cons, List.map_nil, Act.eval, s15]; simp [go_sem, -Array.getD_eq_getD_getElem?, s15]
      · exact Below.refl _ _
      · exact (fun _ _ => rfl)
    case o2 =>
      intro a w hfr hG hd
      obtain ⟨d0, _⟩ := hd
      refine ⟨fun hw => ?_, fun hw => absurd hw (by simp [Region.wanted])⟩
      have s16 : a.tmps.getD 16 undef = .pointer (some ⟨b, 0, none⟩) := (d0 rfl).now
      refine op_yields (.pointer (some ⟨b, 1, none⟩)) ?_ ?_ ?_
      · simp only [execOp, resolve, List.map_toArray, List.map_cons, List.map_nil, Act.eval, s16]; simp [go_sem, -Array.getD_eq_getD_getElem?, s16]
      · exact Below.refl _ _
      · exact (fun _ _ => rfl)
    case o3 =>
      intro a w hfr hG hd
      obtain ⟨d0, _⟩ := hd
      refine ⟨fun hw => ?_, fun hw => absurd hw (by simp [Region.wanted])⟩
      have s17 : a.tmps.getD 17 undef = .pointer (some ⟨b, 1, none⟩) := (d0 rfl).now
      obtain ⟨r0, r1, r2, r3, r4⟩ := hG.now.1.cells
      refine op_yields (.int .i64 s.p) ?_ ?_ ?_
      · simp only [execOp, resolve, List.map_toArray, List.map_cons, List.map_nil, Act.eval, s17]; simp [go_sem, -Array.getD_eq_getD_getElem?, s17, r1]
      · exact Below.refl _ _
      · exact (fun _ _ => rfl)
    case o4 =>
      intro a w hfr hG hd
      refine ⟨fun hw => ?_, fun hw => absurd hw (by simp [Region.wanted])⟩
      have s0 : a.tmps.getD 0 undef = .pointer (some ⟨b, 0, none⟩) := hfr.at 0 (by kernel_rfl)
      refine op_yields (.pointer (some ⟨b, 0, none⟩)) ?_ ?_ ?_
      · simp only [execOp, resolve, List.map_toArray, List.map_cons, List.map_nil, Act.eval, s0]; simp [go_sem, -Array.getD_eq_getD_getElem?, s0]
      · exact Below.refl _ _
      · exact (fun _ _ => rfl)
    case o5 =>
      intro a w hfr hG hd
      obtain ⟨d0, _⟩ := hd
      refine ⟨fun hw => ?_, fun hw => absurd hw (by simp [Region.wanted])⟩
      have s19 : a.tmps.getD 19 undef = .pointer (some ⟨b, 0, none⟩) := (d0 rfl).now
      refine op_yields (.pointer (some ⟨b, 0, none⟩)) ?_ ?_ ?_
      · simp only [execOp, resolve, List.map_toArray, List.map_cons, List.map_nil, Act.eval, s19]; simp [go_sem, -Array.getD_eq_getD_getElem?, s19]
      · exact Below.refl _ _
      · exact (fun _ _ => rfl)
    case o6 =>
      intro a w hfr hG hd
      obtain ⟨d0, _⟩ := hd
      refine ⟨fun hw => ?_, fun hw => absurd hw (by simp [Region.wanted])⟩
      have s20 : a.tmps.getD 20 undef = .pointer (some ⟨b, 0, none⟩) := (d0 rfl).now
      refine op_yields (.pointer (some ⟨b, 0, none⟩)) ?_ ?_ ?_
      · simp only [execOp, resolve, List.map_toArray, List.map_cons, List.map_nil, Act.eval, s20]; simp [go_sem, -Array.getD_eq_getD_getElem?, s20]
      · exact Below.refl _ _
      · exact (fun _ _ => rfl)
    case o7 =>
      intro a w hfr hG hd
      obtain ⟨d0, _⟩ := hd
      refine ⟨fun hw => ?_, fun hw => absurd hw (by simp [Region.wanted])⟩
      have s21 : a.tmps.getD 21 undef = .pointer (some ⟨b, 0, none⟩) := (d0 rfl).now
      obtain ⟨r0, r1, r2, r3, r4⟩ := hG.now.1.cells
      refine op_yields (.slice A n c) ?_ ?_ ?_
      · simp only [execOp, resolve, List.map_toArray, List.map_cons, List.map_nil, Act.eval, s21]; simp [go_sem, -Array.getD_eq_getD_getElem?, s21, r0]
      · exact Below.refl _ _
      · exact (fun _ _ => rfl)
    case o8 =>
      intro a w hfr hG hd
      obtain ⟨d0, _⟩ := hd
      refine ⟨fun hw => ?_, fun hw => absurd hw (by simp [Region.wanted])⟩
      have s22 : a.tmps.getD 22 undef = .slice A n c := (d0 rfl).now
      refine op_yields (.int .i64 n) ?_ ?_ ?_
      · simp only [execOp, resolve, List.map_toArray, List.map_cons, List.map_nil, Act.eval, s22]; simp [go_sem, -Array.getD_eq_getD_getElem?, s22]
      · exact Below.refl _ _
      · exact (fun _ _ => rfl)
    case o9 =>
      intro a w hfr hG hd
      obtain ⟨d0, d1, _⟩ := hd
      refine ⟨fun hw => ?_, fun hw => absurd hw (by simp [Region.wanted])⟩
      have s18 : a.tmps.getD 18 undef = .int .i64 s.p := (d0 rfl).now
      have s23 : a.tmps.getD 23 undef = .int .i64 n := (d1 rfl).now
      refine op_yields (.bool lb) ?_ ?_ ?_
      · simp only [execOp, resolve, List.map_toArray, List.map_cons, List.map_nil, Act.eval, s18, s23]; simp [go_sem, -Array.getD_eq_getD_getElem?, s18, s23, hg1, hg2]
      · exact Below.refl _ _
      · exact (fun _ _ => rfl)
    case hG => exact fun w' hb => ⟨HR.out.below ((Below.refl _ _).drew.trans (hb.mono (by simp))), (Below.refl _ _).drew.trans (hb.mono (by simp))⟩
    case hend =>
      intro vs w' hG hv
      have key : vs 9 = .bool lb := by
        obtain ⟨_, _, _, _, _, _, _, _, _, h9, _⟩ := hv
        exact h9.now
      obtain ⟨hr, hb⟩ := hG.now
      have HR2 := Lib.hid hr; have HB2 := Lib.hid hb
      clear hv hG hr hb HR hg1 hg2 hf
      simp only [putAll, Act.put, key]
      clear key
      go_simp
      cases lb with
      | false =>
        have HE := Lib.hid (show failF ts en s err = ⟨s.p, en, err⟩ by
          unfold failF
          rw [if_pos HFE.out, List.getElem?_eq_none (by have := of_decide_eq_false HGB.out; rw [HL.out]; omega)])
        obtain ⟨c0, c1, c2, c3, c4⟩ := HR2.out.cells
        have f3 := HR2.out.blk.frozen 3
        have f4 := HR2.out.blk.frozen 4
        have HM := Lib.hid (show Moved b A n c ts en (failF ts en s err) w ((w'.setCell ⟨b, 3, none⟩ (.int .i64 en)).setCell ⟨b, 4, none⟩ (.int .i64 err)) from ⟨by rw [HE.out]; exact HR2.out.fault en err, ((Only.of_below HB2.out).set 3 _).set 4 _⟩)
        go_wp2_with fail
        go_end0
        exact ⟨rfl, HM.out⟩
      | true =>
        have hp : s.p < n := of_decide_eq_true HGB.out
        obtain ⟨ad, hpl, rfl, _⟩ := (Sees.tok (HR2.out.row.now) hp)
        have HTK := Lib.hid (show ∀ V : World, RdAt b (some ad) n c ts en s V → V.cell? ⟨(ad.add (s.p * 4)).block, (ad.add (s.p * 4)).off + 2, none⟩ = some (.int .i64 ts[s.p].at_) from fun V hV => by
          obtain ⟨ad', _, h1, h2, h3, h4, h5⟩ := Sees.tok hV.row.now hp
          injection h1 with h1; subst h1
          exact h4)
        have HE := Lib.hid (show failF ts en s err = ⟨s.p, ts[s.p].at_, err⟩ by unfold failF; rw [if_pos HFE.out, List.getElem?_eq_getElem hpl])
        generalize ts[s.p] = t at *
        have hp0 : (0 : Int) ≤ s.p := by omega
        have hp1 : (s.p : Int) < n := by omega
        go_upto_region 3 with fail
        refine wp_region_facts (R := fun a b => Below a.heap.size a b) (G := (fun W => RdAt b (some ad) n c ts en s W ∧ Below w.heap.size w W)) (V := fun i' u' W => match i' with | 0 => u' = .pointer (some ⟨b, 0, none⟩) | 1 => u' = .pointer (some ⟨b, 0, none⟩) | 2 => u' = .pointer (some ⟨b, 0, none⟩) | 3 => u' = .slice (some ad) n c | 4 => u' = .pointer (some ⟨b, 0, none⟩) | 5 => u' = .pointer (some ⟨b, 0, none⟩) | 6 => u' = .pointer (some ⟨b, 1, none⟩) | 7 => u' = .int .i64 s.p | 8 => u' = .pointer (some (ad.add (s.p * 4))) | 9 => u' = .pointer (some ⟨(ad.add (s.p * 4)).block, (ad.add (s.p * 4)).off + 2, none⟩) | 10 => u' = .int .i64 t.at_ | 11 => u' = .int .i64 t.at_ | _ => True) (by kernel_rfl) (fun w => Below.refl _ _) (fun a b c h1 h2 => h1.trans (h2.mono h1.size)) (by kernel_rfl) (by kernel_rfl) ?hG ⟨?o0, ?o1, ?o2, ?o3, ?o4, ?o5, ?o6, ?o7, ?o8, ?o9, ?o10, ?o11, trivial⟩ ?hend
        case o0 =>
          intro a w hfr hG hd
          refine ⟨fun hw => ?_, fun hw => absurd hw (by simp [Region.wanted])⟩
          have s0 : a.tmps.getD 0 undef = .pointer (some ⟨b, 0, none⟩) := hfr.at 0 (by kernel_rfl)
          refine op_yields (.pointer (some ⟨b, 0, none⟩)) ?_ ?_ ?_
          · simp only [execOp, resolve, List.map_toArray, List.map_cons, List.map_nil, Act.eval, s0]; simp [go_sem, -Array.getD_eq_getD_getElem?, s0]
          · exact Below.refl _ _
          · exact (fun _ _ => rfl)
        case o1 =>
          intro a w hfr hG hd
          obtain ⟨d0, _⟩ := hd
          refine ⟨fun hw => ?_, fun hw => absurd hw (by simp [Region.wanted])⟩
          have s25 : a.tmps.getD 25 undef = .pointer (some ⟨b, 0, none⟩) := (d0 rfl).now
          refine op_yields (.pointer (some ⟨b, 0, none⟩)) ?_ ?_ ?_
          · simp only [execOp, resolve, List.map_toArray, List.map_cons, List.map_nil, Act.eval, s25]; simp [go_sem, -Array.getD_eq_getD_getElem?, s25]
          · exact Below.refl _ _
          · exact (fun _ _ => rfl)
        case o2 =>
          intro a w hfr hG hd
          obtain ⟨d0, _⟩ := hd
          refine ⟨fun hw => ?_, fun hw => absurd hw (by simp [Region.wanted])⟩
          have s26 : a.tmps.getD 26 undef = .pointer (some ⟨b, 0, none⟩) := (d0 rfl).now
          refine op_yields (.pointer (some ⟨b, 0, none⟩)) ?_ ?_ ?_
          · simp only [execOp, resolve, List.map_toArray, List.map_cons, List.map_nil, Act.eval, s26]; simp [go_sem, -Array.getD_eq_getD_getElem?, s26]
          · exact Below.refl _ _
          · exact (fun _ _ => rfl)
        case o3 =>
          intro a w hfr hG hd
          obtain ⟨d0, _⟩ := hd
          refine ⟨fun hw => ?_, fun hw => absurd hw (by simp [Region.wanted])⟩
          have s27 : a.tmps.getD 27 undef = .pointer (some ⟨b, 0, none⟩) := (d0 rfl).now
          obtain ⟨r0, r1, r2, r3, r4⟩ := hG.now.1.cells
          refine op_yields (.slice (some ad) n c) ?_ ?_ ?_
          · simp only [execOp, resolve, List.map_toArray, List.map_cons, List.map_nil, Act.eval, s27]; simp [go_sem, -Array.getD_eq_getD_getElem?, s27, r0]
          · exact Below.refl _ _
          · exact (fun _ _ => rfl)
        case o4 =>
          intro a w hfr hG hd
          refine ⟨fun hw => ?_, fun hw => absurd hw (by simp [Region.wanted])⟩
          have s0 : a.tmps.getD 0 undef = .pointer (some ⟨b, 0, none⟩) := hfr.at 0 (by kernel_rfl)
          refine op_yields (.pointer (some ⟨b, 0, none⟩)) ?_ ?_ ?_
          · simp only [execOp, resolve, List.map_toArray, List.map_cons, List.map_nil, Act.eval, s0]; simp [go_sem, -Array.getD_eq_getD_getElem?, s0]
          · exact Below.refl _ _
          · exact (fun _ _ => rfl)
        case o5 =>
          intro a w hfr hG hd
          obtain ⟨d0, _⟩ := hd
          refine ⟨fun hw => ?_, fun hw => absurd hw (by simp [Region.wanted])⟩
          have s29 : a.tmps.getD 29 undef = .pointer (some ⟨b, 0, none⟩) := (d0 rfl).now
          refine op_yields (.pointer (some ⟨b, 0, none⟩)) ?_ ?_ ?_
          · simp only [execOp, resolve, List.map_toArray, List.map_cons, List.map_nil, Act.eval, s29]; simp [go_sem, -Array.getD_eq_getD_getElem?, s29]
          · exact Below.refl _ _
          · exact (fun _ _ => rfl)
        case o6 =>
          intro a w hfr hG hd
          obtain ⟨d0, _⟩ := hd
          refine ⟨fun hw => ?_, fun hw => absurd hw (by simp [Region.wanted])⟩
          have s30 : a.tmps.getD 30 undef = .pointer (some ⟨b, 0, none⟩) := (d0 rfl).now
          refine op_yields (.pointer (some ⟨b, 1, none⟩)) ?_ ?_ ?_
          · simp only [execOp, resolve, List.map_toArray, List.map_cons, List.map_nil, Act.eval, s30]; simp [go_sem, -Array.getD_eq_getD_getElem?, s30]
          · exact Below.refl _ _
          · exact (fun _ _ => rfl)
        case o7 =>
          intro a w hfr hG hd
          obtain ⟨d0, _⟩ := hd
          refine ⟨fun hw => ?_, fun hw => absurd hw (by simp [Region.wanted])⟩
          have s31 : a.tmps.getD 31 undef = .pointer (some ⟨b, 1, none⟩) := (d0 rfl).now
          obtain ⟨r0, r1, r2, r3, r4⟩ := hG.now.1.cells
          refine op_yields (.int .i64 s.p) ?_ ?_ ?_
          · simp only [execOp, resolve, List.map_toArray, List.map_cons, List.map_nil, Act.eval, s31]; simp [go_sem, -Array.getD_eq_getD_getElem?, s31, r1]
          · exact Below.refl _ _
          · exact (fun _ _ => rfl)
        case o8 =>
          intro a w hfr hG hd
          obtain ⟨d0, d1, _⟩ := hd
          refine ⟨fun hw => ?_, fun hw => absurd hw (by simp [Region.wanted])⟩
          have s28 : a.tmps.getD 28 undef = .slice (some ad) n c := (d0 rfl).now
          have s32 : a.tmps.getD 32 undef = .int .i64 s.p := (d1 rfl).now
          refine op_yields (.pointer (some (ad.add (s.p * 4)))) ?_ ?_ ?_
          · simp only [execOp, resolve, List.map_toArray, List.map_cons, List.map_nil, Act.eval, s28, s32]; simp [go_sem, -Array.getD_eq_getD_getElem?, s28, s32, hp0, hp1]
          · exact Below.refl _ _
          · exact (fun _ _ => rfl)
        case o9 =>
          intro a w hfr hG hd
          obtain ⟨d0, _⟩ := hd
          refine ⟨fun hw => ?_, fun hw => absurd hw (by simp [Region.wanted])⟩
          have s33 : a.tmps.getD 33 undef = .pointer (some (ad.add (s.p * 4))) := (d0 rfl).now
          refine op_yields (.pointer (some ⟨(ad.add (s.p * 4)).block, (ad.add (s.p * 4)).off + 2, none⟩)) ?_ ?_ ?_
          · simp only [execOp, resolve, List.map_toArray, List.map_cons, List.map_nil, Act.eval, s33]; simp [go_sem, -Array.getD_eq_getD_getElem?, s33]
          · exact Below.refl _ _
          · exact (fun _ _ => rfl)
        case o10 =>
          intro a w hfr hG hd
          obtain ⟨d0, _⟩ := hd
          refine ⟨fun hw => ?_, fun hw => absurd hw (by simp [Region.wanted])⟩
          have s34 : a.tmps.getD 34 undef = .pointer (some ⟨(ad.add (s.p * 4)).block, (ad.add (s.p * 4)).off + 2, none⟩) := (d0 rfl).now
          have k2 := HTK.out w hG.now.1
          refine op_yields (.int .i64 t.at_) ?_ ?_ ?_
          · simp only [execOp, resolve, List.map_toArray, List.map_cons, List.map_nil, Act.eval, s34]; simp [go_sem, -Array.getD_eq_getD_getElem?, s34, k2]
          · exact Below.refl _ _
          · exact (fun _ _ => rfl)
        case o11 =>
          intro a w hfr hG hd
          obtain ⟨d0, d1, d2, d3, d4, d5, d6, d7, d8, d9, d10, d11, _⟩ := hd
          refine ⟨fun hw => ?_, fun hw => absurd hw (by simp [Region.wanted])⟩
          have s35 : a.tmps.getD 35 undef = .int .i64 t.at_ := (d0 rfl).now
          refine op_yields (.int .i64 t.at_) ?_ ?_ ?_
          · simp only [execOp, resolve, List.map_toArray, List.map_cons, List.map_nil, Act.eval, s35]; simp [go_sem, -Array.getD_eq_getD_getElem?, s35]
          · exact Below.refl _ _
          · exact (fun _ _ => rfl)
        case hG => exact fun w' hb => ⟨HR2.out.below ((Below.refl _ _).drew.trans (hb.mono (by simp))), HB2.out.trans ((Below.refl _ _).drew.trans (hb.mono (by simp; exact HB2.out.size)))⟩
        case hend =>
          intro vs w' hG hv
          have key : vs 10 = .int .i64 t.at_ ∧ vs 11 = .int .i64 t.at_ := by
            obtain ⟨_, _, _, _, _, _, _, _, _, _, h10, h11, _⟩ := hv
            exact ⟨h10.now, h11.now⟩
          obtain ⟨hr, hb⟩ := hG.now
          have HR3 := Lib.hid hr; have HB3 := Lib.hid hb
          clear hv hG hr hb HR2 HB2 HTK
          simp only [putAll, Act.put, key.1, key.2]
          clear key
          go_simp
          obtain ⟨c0, c1, c2, c3, c4⟩ := HR3.out.cells
          have f3 := HR3.out.blk.frozen 3
          have f4 := HR3.out.blk.frozen 4
          have HM := Lib.hid (show Moved b (some ad) n c ts en (failF ts en s err) w ((w'.setCell ⟨b, 3, none⟩ (.int .i64 t.at_)).setCell ⟨b, 4, none⟩ (.int .i64 err)) from ⟨by rw [HE.out]; exact HR3.out.fault _ err, ((Only.of_below HB3.out).set 3 _).set 4 _⟩)
          go_wp2_with fail
          go_end0
          exact ⟨rfl, HM.out⟩
  · have hf : (s.fe != 0) = true := by rw [bne, beq_eq_false_iff_ne.2 hfe]; rfl
    have HM := Lib.hid (show Moved b A n c ts en (failF ts en s err) w w from ⟨by unfold failF; rw [if_neg hfe]; exact HR.out, Only.refl _ _⟩)
    go_wp2_with fail
    refine bodyPost_ret (v := .tuple #[]) (by simp [results, Tryz.results67, go_sem]) rfl ?_
    exact ⟨rfl, HM.out⟩
set_option maxHeartbeats 2000000 in
theorem is_any (b : Nat) (A : Option Addr) (n c : Nat) (ts : List Tok) (en : Int) (s : PS) (kd : Int) (tx : ByteArray) (w : World) (h : RdAt b A n c ts en s w) :
    Calls Tryz.prog 80 #[.pointer (some ⟨b, 0, none⟩), .int .i64 kd, .string tx] w fun e w' => e = .returned (.bool (isF ts s kd tx)) ∧ Below w.heap.size w w' := by
  have HP := Lib.hid (peek_any b A n c ts en s w h)
  have HE : Hid (isF ts s kd tx = (peekF ts s).same kd tx) := Lib.hid rfl
  clear h
  generalize peekF ts s = t at *
  unfold Tok.val at HP
  go_enter Tryz.func80, Tryz.ntmps80
  go_wp2_with fail
  (with_reducible refine HP.out.mono ?_); rintro e w1 ⟨rfl, hb1⟩
  have HB := Lib.hid (hb1.alloc hb1.size (.cells #[.int .i64 t.kd, .int .i64 t.n, .int .i64 t.at_, .string t.tx] 96))
  have HK := Lib.hid (Blk.mk (heap_alloc_new w1 (.cells #[.int .i64 t.kd, .int .i64 t.n, .int .i64 t.at_, .string t.tx] 96)) : Blk _ w1.heap.size 96 [.int .i64 t.kd, .int .i64 t.n, .int .i64 t.at_, .string t.tx])
  clear hb1 HP
  obtain ⟨c0, c1, c2, c3⟩ := blk_cells4 HK.out
  by_cases h1 : t.kd = kd
  · have t1 : (t.kd == kd) = true := by rw [h1]; simp
    by_cases h2 : t.tx = tx
    · have t2 : (t.tx.toList == tx.toList) = true := by rw [h2]; simp
      have HE2 := Lib.hid (show isF ts s kd tx = true by rw [HE.out]; unfold Tok.same; rw [decide_eq_true h1, decide_eq_true h2]; rfl)
      clear h1 h2
      go_wp2_with fail
      go_ret
      exact ⟨by rw [HE2.out]; rfl, HB.out⟩
    · have t2 : (t.tx.toList == tx.toList) = false := by rw [beq_eq_false_iff_ne]; exact fun e => h2 (by apply ByteArray.ext; apply Array.toList_inj.1; simpa [ByteArray.toList_eq] using e)
      have HE2 := Lib.hid (show isF ts s kd tx = false by rw [HE.out]; unfold Tok.same; rw [decide_eq_false h2, Bool.and_false])
      clear h1 h2
      go_wp2_with fail
      go_ret
      exact ⟨by rw [HE2.out]; rfl, HB.out⟩
  · have t1 : (t.kd == kd) = false := by rw [beq_eq_false_iff_ne]; exact h1
    have HE2 := Lib.hid (show isF ts s kd tx = false by rw [HE.out]; unfold Tok.same; rw [decide_eq_false h1, Bool.false_and])
    clear h1
    go_wp2_with fail
    go_ret
    exact ⟨by rw [HE2.out]; rfl, HB.out⟩
set_option maxHeartbeats 2000000 in
theorem must_any (b : Nat) (A : Option Addr) (n c : Nat) (ts : List Tok) (en : Int) (s : PS) (kd : Int) (tx : ByteArray) (w : World) (h : RdAt b A n c ts en s w) (hk : kd ≠ 0) (hn : n ≤ 1000000) :
    Calls Tryz.prog 93 #[.pointer (some ⟨b, 0, none⟩), .int .i64 kd, .string tx] w fun e w' => e = .returned (.tuple #[]) ∧ Moved b A n c ts en (mustF ts en s kd tx) w w' := by
  have HI := Lib.hid (is_any b A n c ts en s kd tx w h)
  have HR := Lib.hid h
  have HL := Lib.hid h.len
  have HLT := Lib.hid (fun e => isF_lt (ts := ts) (s := s) (tx := tx) hk e)
  have HM : Hid (mustF ts en s kd tx = if isF ts s kd tx = true then nextF s else failF ts en s 1) := Lib.hid rfl
  clear h hk
  obtain ⟨q, hq⟩ : ∃ q, isF ts s kd tx = q := ⟨_, rfl⟩
  rw [hq] at HI HLT HM
  clear hq
  go_enter Tryz.func93, Tryz.ntmps93
  go_wp2_with fail
  (with_reducible refine HI.out.mono ?_); rintro e w1 ⟨rfl, hb1⟩
  have HR1 := Lib.hid (HR.out.below hb1)
  have HO1 := Lib.hid (Only.of_below (b := b) hb1)
  clear hb1 HI HR
  cases q with
  | true =>
    have hp := (HLT.out rfl).2
    rw [HL.out] at hp
    have HX := Lib.hid (show Moved b A n c ts en (mustF ts en s kd tx) w (w1.setCell ⟨b, 1, none⟩ (.int .i64 ((s.p : Int) + 1))) from ⟨by rw [HM.out, if_pos rfl]; exact HR1.out.next hp, HO1.out.set 1 _⟩)
    obtain ⟨c0, c1, c2, c3, c4⟩ := HR1.out.cells
    have f1 := HR1.out.blk.frozen 1
    have i1 : IntKind.i64.wrap ((s.p : Int) + 1) = (s.p : Int) + 1 := by rw [IntKind.wrap_i64]; omega
    go_wp2_with fail
    go_end0
    exact ⟨rfl, HX.out⟩
  | false =>
    have HF := Lib.hid (fail_any b A n c ts en s 1 w1 HR1.out)
    have HE := Lib.hid (show mustF ts en s kd tx = failF ts en s 1 by rw [HM.out, if_neg (by simp)])
    go_wp2_with fail
    (with_reducible refine HF.out.mono ?_); rintro e w2 ⟨rfl, hm⟩
    have HX := Lib.hid (show Moved b A n c ts en (mustF ts en s kd tx) w w2 from ⟨by rw [HE.out]; exact hm.rd, HO1.out.trans hm.only⟩)
    clear hm
    go_wp2_with fail
    refine bodyPost_ret (v := .tuple #[]) (by simp [results, Tryz.results93, go_sem]) rfl ?_
    exact ⟨rfl, HX.out⟩
set_option maxHeartbeats 2000000 in
theorem skip_any (b : Nat) (A : Option Addr) (n c : Nat) (ts : List Tok) (en : Int) (s : PS) (kd : Int) (tx : ByteArray) (w : World) (h : RdAt b A n c ts en s w) (hk : kd ≠ 0) (hn : n ≤ 1000000) :
    Calls Tryz.prog 94 #[.pointer (some ⟨b, 0, none⟩), .int .i64 kd, .string tx] w fun e w' => e = .returned (.bool (skipF ts s kd tx).1) ∧ Moved b A n c ts en (skipF ts s kd tx).2 w w' := by
  have HI := Lib.hid (is_any b A n c ts en s kd tx w h)
  have HR := Lib.hid h
  have HL := Lib.hid h.len
  have HLT := Lib.hid (fun e => isF_lt (ts := ts) (s := s) (tx := tx) hk e)
  have HM : Hid (skipF ts s kd tx = if isF ts s kd tx = true then (true, nextF s) else (false, s)) := Lib.hid rfl
  clear h hk
  obtain ⟨q, hq⟩ : ∃ q, isF ts s kd tx = q := ⟨_, rfl⟩
  rw [hq] at HI HLT HM
  clear hq
  go_enter Tryz.func94, Tryz.ntmps94
  go_wp2_with fail
  (with_reducible refine HI.out.mono ?_); rintro e w1 ⟨rfl, hb1⟩
  have HR1 := Lib.hid (HR.out.below hb1)
  have HO1 := Lib.hid (Only.of_below (b := b) hb1)
  clear hb1 HI HR
  cases q with
  | true =>
    have hp := (HLT.out rfl).2
    rw [HL.out] at hp
    have HE := Lib.hid (show skipF ts s kd tx = (true, nextF s) by rw [HM.out, if_pos rfl])
    have HX := Lib.hid (show Moved b A n c ts en (skipF ts s kd tx).2 w (w1.setCell ⟨b, 1, none⟩ (.int .i64 ((s.p : Int) + 1))) from ⟨by rw [HE.out]; exact HR1.out.next hp, HO1.out.set 1 _⟩)
    obtain ⟨c0, c1, c2, c3, c4⟩ := HR1.out.cells
    have f1 := HR1.out.blk.frozen 1
    have i1 : IntKind.i64.wrap ((s.p : Int) + 1) = (s.p : Int) + 1 := by rw [IntKind.wrap_i64]; omega
    go_wp2_with fail
    go_ret
    exact ⟨by rw [HE.out]; rfl, HX.out⟩
  | false =>
    have HE := Lib.hid (show skipF ts s kd tx = (false, s) by rw [HM.out, if_neg (by simp)])
    have HX := Lib.hid (show Moved b A n c ts en (skipF ts s kd tx).2 w w1 from ⟨by rw [HE.out]; exact HR1.out, HO1.out⟩)
    go_wp2_with fail
    go_ret
    exact ⟨by rw [HE.out]; rfl, HX.out⟩
set_option maxHeartbeats 2000000 in
theorem take_any (b : Nat) (A : Option Addr) (n c : Nat) (ts : List Tok) (en : Int) (s : PS) (kd : Int) (w : World) (h : RdAt b A n c ts en s w) (hk : kd ≠ 0) (hn : n ≤ 1000000) :
    Calls Tryz.prog 81 #[.pointer (some ⟨b, 0, none⟩), .int .i64 kd] w fun e w' => e = .returned (takeF ts en s kd).1.val ∧ Moved b A n c ts en (takeF ts en s kd).2 w w' := by
  have HR := Lib.hid (h.alloc (.cells #[.int .i64 0, .int .i64 0, .int .i64 0, .string ⟨#[]⟩] 96))
  have HR0 := Lib.hid h
  have HB := Lib.hid ((Below.refl w.heap.size w).alloc (Nat.le_refl _) (.cells #[.int .i64 0, .int .i64 0, .int .i64 0, .string ⟨#[]⟩] 96))
  have HK := Lib.hid (Blk.mk (heap_alloc_new w (.cells #[.int .i64 0, .int .i64 0, .int .i64 0, .string ⟨#[]⟩] 96)) : Blk _ w.heap.size 96 [.int .i64 0, .int .i64 0, .int .i64 0, .string ⟨#[]⟩])
  have HL := Lib.hid h.len
  have HP := Lib.hid (peek_any b A n c ts en s (w.alloc (.cells #[.int .i64 0, .int .i64 0, .int .i64 0, .string ⟨#[]⟩] 96)) (h.alloc _))
  have HLT := Lib.hid (fun e => peekF_lt (ts := ts) (s := s) e)
  have HM : Hid (takeF ts en s kd = if (peekF ts s).kd = kd then (peekF ts s, nextF s) else (zeroT, failF ts en s 1)) := Lib.hid rfl
  have hbw : b < w.heap.size := h.blk.lt
  have HKD := Lib.hid hk
  clear h hk
  generalize peekF ts s = t at *
  unfold Tok.val at HP
  have HG := Lib.hid (show ∃ g, w.heap.size = g from ⟨_, rfl⟩)
  go_enter Tryz.func81, Tryz.ntmps81
  go_upto_region 1 with fail
  obtain ⟨g2, hg2'⟩ := HG.out
  rw [hg2']
  have HGE := Lib.hid hg2'
  rw [hg2'] at hbw
  clear HG hg2'
  generalize w.alloc (.cells #[.int .i64 0, .int .i64 0, .int .i64 0, .string ⟨#[]⟩] 96) = W1 at *
  rw [HGE.out] at HK
  go_wp2_with fail
  (with_reducible refine HP.out.mono ?_); rintro e w1 ⟨rfl, hb1⟩
  have HR1 := Lib.hid ((HR.out.below hb1).alloc (.cells #[.int .i64 t.kd, .int .i64 t.n, .int .i64 t.at_, .string t.tx] 96))
  have HB1 := Lib.hid ((HB.out.trans (hb1.mono HB.out.size)).alloc (Nat.le_trans HB.out.size hb1.size) (.cells #[.int .i64 t.kd, .int .i64 t.n, .int .i64 t.at_, .string t.tx] 96))
  have HK1 := Lib.hid ((HK.out.below hb1 HK.out.lt).alloc (.cells #[.int .i64 t.kd, .int .i64 t.n, .int .i64 t.at_, .string t.tx] 96))
  have HT1 := Lib.hid (Blk.mk (heap_alloc_new w1 (.cells #[.int .i64 t.kd, .int .i64 t.n, .int .i64 t.at_, .string t.tx] 96)) : Blk _ w1.heap.size 96 [.int .i64 t.kd, .int .i64 t.n, .int .i64 t.at_, .string t.tx])
  have HG1 := Lib.hid (show ∃ g, w1.heap.size = g from ⟨_, rfl⟩)
  have hg2l := HK.out.lt
  have hw1 := hb1.size
  clear hb1 HP HR HB HK
  go_upto_region 2 with fail
  obtain ⟨g5, hg5'⟩ := HG1.out
  rw [hg5']
  have HG5 := Lib.hid hg5'
  rw [hg5'] at hw1
  clear HG1 hg5'
  generalize w1.alloc (.cells #[.int .i64 t.kd, .int .i64 t.n, .int .i64 t.at_, .string t.tx] 96) = W2 at *
  rw [HG5.out] at HT1
  have hg25 : g2 < g5 := by omega
  have hwg : w.heap.size ≤ g2 := by rw [HGE.out]; exact Nat.le_refl _
  obtain ⟨x0, x1, x2, x3⟩ := blk_cells4 HT1.out
  by_cases h1 : t.kd = kd
  · have t1 : (t.kd != kd) = false := by rw [h1]; simp
    have hp := (HLT.out (by rw [h1]; exact HKD.out)).2
    rw [HL.out] at hp
    have HE := Lib.hid (show takeF ts en s kd = (t, nextF s) by rw [HM.out, if_pos h1])
    obtain ⟨c0, c1, c2, c3, c4⟩ := HR1.out.cells
    have f1 := HR1.out.blk.frozen 1
    have i1 : IntKind.i64.wrap ((s.p : Int) + 1) = (s.p : Int) + 1 := by rw [IntKind.wrap_i64]; omega
    have HR2 := Lib.hid (HR1.out.next hp)
    have HO2 := Lib.hid ((Only.of_below (b := b) HB1.out).set 1 (.int .i64 ((s.p : Int) + 1)))
    have HK2 := Lib.hid (HK1.out.far (p := ⟨b, 1, none⟩) (show g2 ≠ b by omega) (.int .i64 ((s.p : Int) + 1)))
    have HT2 := Lib.hid (HT1.out.far (p := ⟨b, 1, none⟩) (show g5 ≠ b by omega) (.int .i64 ((s.p : Int) + 1)))
    clear h1
    go_upto_region 6 with fail
    generalize W2.setCell ⟨b, 1, none⟩ (.int .i64 ((s.p : Int) + 1)) = W3 at *
    clear x0 x1 x2 x3 c0 c1 c2 c3 c4 f1 HR1 HB1 HK1 HT1
    obtain ⟨x0, x1, x2, x3⟩ := blk_cells4 HT2.out
    obtain ⟨y0, y1, y2, y3⟩ := blk_cells4 HK2.out
    have f0 := HK2.out.frozen 0
    have f1 := HK2.out.frozen 1
    have f2 := HK2.out.frozen 2
    have f3 := HK2.out.frozen 3
    have HKZ := Lib.hid (set4W_blk HK2.out (.int .i64 t.kd) (.int .i64 t.n) (.int .i64 t.at_) (.string t.tx))
    have HOZ := Lib.hid (HO2.out.set4 hwg (.int .i64 t.kd) (.int .i64 t.n) (.int .i64 t.at_) (.string t.tx))
    have HX := Lib.hid (show Moved b A n c ts en (takeF ts en s kd).2 w (set4W W3 g2 (.int .i64 t.kd) (.int .i64 t.n) (.int .i64 t.at_) (.string t.tx)) from ⟨by rw [HE.out]; exact HR0.out.of (HR2.out.blk.far4 (show b ≠ g2 by omega) _ _ _ _) HOZ.out HR2.out.le, HOZ.out⟩)
    go_wp2_with fail
    obtain ⟨q0, q1, q2, q3⟩ := blk_cells4 HKZ.out
    have hx := HX.out
    unfold set4W at q0 q1 q2 q3 hx
    refine bodyPost_ret (v := .agg #[.int .i64 t.kd, .int .i64 t.n, .int .i64 t.at_, .string t.tx]) (by simp [results, Tryz.results81, go_sem, q0, q1, q2, q3]) rfl ?_
    exact ⟨by rw [HE.out]; rfl, hx⟩
  · have t1 : (t.kd != kd) = true := by rw [bne, beq_eq_false_iff_ne.2 h1]; rfl
    have HE := Lib.hid (show takeF ts en s kd = (zeroT, failF ts en s 1) by rw [HM.out, if_neg h1])
    have HF := Lib.hid (fail_any b A n c ts en s 1 W2 HR1.out)
    clear h1
    go_wp2_with fail
    (with_reducible refine HF.out.mono ?_); rintro e w3 ⟨rfl, hm⟩
    have HM3 := Lib.hid hm
    have HO3 := Lib.hid ((Only.of_below (b := b) HB1.out).trans hm.only)
    have HK3 := Lib.hid (HK1.out.only hm.only (show g2 ≠ b by omega))
    clear hm x0 x1 x2 x3 HR1 HB1 HK1 HT1 HF
    obtain ⟨y0, y1, y2, y3⟩ := blk_cells4 HK3.out
    have f0 := HK3.out.frozen 0
    have f1 := HK3.out.frozen 1
    have f2 := HK3.out.frozen 2
    have f3 := HK3.out.frozen 3
    have HKZ := Lib.hid (set4W_blk HK3.out (.int .i64 0) (.int .i64 0) (.int .i64 0) (.string ⟨#[]⟩))
    have HOZ := Lib.hid (HO3.out.set4 hwg (.int .i64 0) (.int .i64 0) (.int .i64 0) (.string ⟨#[]⟩))
    have HX := Lib.hid (show Moved b A n c ts en (takeF ts en s kd).2 w (set4W w3 g2 (.int .i64 0) (.int .i64 0) (.int .i64 0) (.string ⟨#[]⟩)) from ⟨by rw [HE.out]; exact HR0.out.of (HM3.out.rd.blk.far4 (show b ≠ g2 by omega) _ _ _ _) HOZ.out HM3.out.rd.le, HOZ.out⟩)
    go_wp2_with fail
    obtain ⟨q0, q1, q2, q3⟩ := blk_cells4 HKZ.out
    have hx := HX.out
    unfold set4W at q0 q1 q2 q3 hx
    refine bodyPost_ret (v := .agg #[.int .i64 0, .int .i64 0, .int .i64 0, .string ⟨#[]⟩]) (by simp [results, Tryz.results81, go_sem, q0, q1, q2, q3]) rfl ?_
    exact ⟨by rw [HE.out]; rfl, hx⟩
end Go.Proofs.YtcaapbbbekggiaaGreatDoor

namespace Go.Proofs.YtcaapbbbekggiaaGreatDoor
open Go.ChangeShapes Go.WideShapes Go.ChangeAt Go.RowKit
set_option linter.unusedVariables false
set_option linter.unusedSimpArgs false
set_option maxRecDepth 100000
/-- What an expression of two has between its kids. -/
def signX (k : Int) : ByteArray := if k = 3 then ⟨#[43]⟩ else if k = 4 then ⟨#[45]⟩ else if k = 5 then ⟨#[42]⟩ else if k = 6 then ⟨#[47]⟩ else if k = 7 then ⟨#[37]⟩ else if k = 8 then ⟨#[61, 61]⟩ else if k = 9 then ⟨#[33, 61]⟩ else if k = 10 then ⟨#[60]⟩ else if k = 11 then ⟨#[60, 61]⟩ else if k = 12 then ⟨#[62]⟩ else if k = 13 then ⟨#[62, 61]⟩ else if k = 14 then ⟨#[97, 110, 100]⟩ else if k = 15 then ⟨#[111, 114]⟩ else if k = 16 then ⟨#[117, 110, 108, 101, 115, 115]⟩ else ⟨#[]⟩
/-- What an expression of one begins with. -/
def wordX (k : Int) : ByteArray := if k = 17 then ⟨#[115, 117, 109]⟩ else if k = 18 then ⟨#[109, 105, 110]⟩ else if k = 19 then ⟨#[109, 97, 120]⟩ else if k = 20 then ⟨#[99, 111, 117, 110, 116]⟩ else ⟨#[]⟩
set_option maxHeartbeats 2000000 in
theorem sign_x (k : Int) (w : World) : Calls Tryz.prog 26 #[.int .i64 k] w fun e w' => e = .returned (.string (signX k)) ∧ w = w' := by
  by_cases h3 : k = 3
  · subst h3; go_enter Tryz.func26, Tryz.ntmps26
    go_wp2_with fail
    go_ret
    exact ⟨rfl, rfl⟩
  by_cases h4 : k = 4
  · subst h4; go_enter Tryz.func26, Tryz.ntmps26
    go_wp2_with fail
    go_ret
    exact ⟨rfl, rfl⟩
  by_cases h5 : k = 5
  · subst h5; go_enter Tryz.func26, Tryz.ntmps26
    go_wp2_with fail
    go_ret
    exact ⟨rfl, rfl⟩
  by_cases h6 : k = 6
  · subst h6; go_enter Tryz.func26, Tryz.ntmps26
    go_wp2_with fail
    go_ret
    exact ⟨rfl, rfl⟩
  by_cases h7 : k = 7
  · subst h7; go_enter Tryz.func26, Tryz.ntmps26
    go_wp2_with fail
    go_ret
    exact ⟨rfl, rfl⟩
  by_cases h8 : k = 8
  · subst h8; go_enter Tryz.func26, Tryz.ntmps26
    go_wp2_with fail
    go_ret
    exact ⟨rfl, rfl⟩
  by_cases h9 : k = 9
  · subst h9; go_enter Tryz.func26, Tryz.ntmps26
    go_wp2_with fail
    go_ret
    exact ⟨rfl, rfl⟩
  by_cases h10 : k = 10
  · subst h10; go_enter Tryz.func26, Tryz.ntmps26
    go_wp2_with fail
    go_ret
    exact ⟨rfl, rfl⟩
  by_cases h11 : k = 11
  · subst h11; go_enter Tryz.func26, Tryz.ntmps26
    go_wp2_with fail
    go_ret
    exact ⟨rfl, rfl⟩
  by_cases h12 : k = 12
  · subst h12; go_enter Tryz.func26, Tryz.ntmps26
    go_wp2_with fail
    go_ret
    exact ⟨rfl, rfl⟩
  by_cases h13 : k = 13
  · subst h13; go_enter Tryz.func26, Tryz.ntmps26
    go_wp2_with fail
    go_ret
    exact ⟨rfl, rfl⟩
  by_cases h14 : k = 14
  · subst h14; go_enter Tryz.func26, Tryz.ntmps26
    go_wp2_with fail
    go_ret
    exact ⟨rfl, rfl⟩
  by_cases h15 : k = 15
  · subst h15; go_enter Tryz.func26, Tryz.ntmps26
    go_wp2_with fail
    go_ret
    exact ⟨rfl, rfl⟩
  by_cases h16 : k = 16
  · subst h16; go_enter Tryz.func26, Tryz.ntmps26
    go_wp2_with fail
    go_ret
    exact ⟨rfl, rfl⟩
  have t3 : (k == 3) = false := by rw [beq_eq_false_iff_ne]; exact h3
  have t4 : (k == 4) = false := by rw [beq_eq_false_iff_ne]; exact h4
  have t5 : (k == 5) = false := by rw [beq_eq_false_iff_ne]; exact h5
  have t6 : (k == 6) = false := by rw [beq_eq_false_iff_ne]; exact h6
  have t7 : (k == 7) = false := by rw [beq_eq_false_iff_ne]; exact h7
  have t8 : (k == 8) = false := by rw [beq_eq_false_iff_ne]; exact h8
  have t9 : (k == 9) = false := by rw [beq_eq_false_iff_ne]; exact h9
  have t10 : (k == 10) = false := by rw [beq_eq_false_iff_ne]; exact h10
  have t11 : (k == 11) = false := by rw [beq_eq_false_iff_ne]; exact h11
  have t12 : (k == 12) = false := by rw [beq_eq_false_iff_ne]; exact h12
  have t13 : (k == 13) = false := by rw [beq_eq_false_iff_ne]; exact h13
  have t14 : (k == 14) = false := by rw [beq_eq_false_iff_ne]; exact h14
  have t15 : (k == 15) = false := by rw [beq_eq_false_iff_ne]; exact h15
  have t16 : (k == 16) = false := by rw [beq_eq_false_iff_ne]; exact h16
  have HE := Lib.hid (show signX k = ⟨#[]⟩ by unfold signX; simp only [h3, h4, h5, h6, h7, h8, h9, h10, h11, h12, h13, h14, h15, h16, if_false])
  clear h3 h4 h5 h6 h7 h8 h9 h10 h11 h12 h13 h14 h15 h16
  go_enter Tryz.func26, Tryz.ntmps26
  go_wp2_with fail
  go_ret
  exact ⟨by rw [HE.out]; rfl, rfl⟩
set_option maxHeartbeats 2000000 in
theorem word_x (k : Int) (w : World) : Calls Tryz.prog 24 #[.int .i64 k] w fun e w' => e = .returned (.string (wordX k)) ∧ w = w' := by
  by_cases h17 : k = 17
  · subst h17; go_enter Tryz.func24, Tryz.ntmps24
    go_wp2_with fail
    go_ret
    exact ⟨rfl, rfl⟩
  by_cases h18 : k = 18
  · subst h18; go_enter Tryz.func24, Tryz.ntmps24
    go_wp2_with fail
    go_ret
    exact ⟨rfl, rfl⟩
  by_cases h19 : k = 19
  · subst h19; go_enter Tryz.func24, Tryz.ntmps24
    go_wp2_with fail
    go_ret
    exact ⟨rfl, rfl⟩
  by_cases h20 : k = 20
  · subst h20; go_enter Tryz.func24, Tryz.ntmps24
    go_wp2_with fail
    go_ret
    exact ⟨rfl, rfl⟩
  have t17 : (k == 17) = false := by rw [beq_eq_false_iff_ne]; exact h17
  have t18 : (k == 18) = false := by rw [beq_eq_false_iff_ne]; exact h18
  have t19 : (k == 19) = false := by rw [beq_eq_false_iff_ne]; exact h19
  have t20 : (k == 20) = false := by rw [beq_eq_false_iff_ne]; exact h20
  have HE := Lib.hid (show wordX k = ⟨#[]⟩ by unfold wordX; simp only [h17, h18, h19, h20, if_false])
  clear h17 h18 h19 h20
  go_enter Tryz.func24, Tryz.ntmps24
  go_wp2_with fail
  go_ret
  exact ⟨by rw [HE.out]; rfl, rfl⟩
/-- The first of these kinds that may be. -/
def firstK (p : Int → Bool) : Nat → Int → Option Int
  | 0, _ => none
  | f + 1, k => if p k = true then some k else firstK p f (k + 1)
def kindF (t : Tok) : Int := if t.kd = 2 then (firstK (fun k => decide (t.tx = wordX k)) 4 17).getD 0 else 0
set_option maxHeartbeats 2000000 in
theorem kind_any (t : Tok) (w : World) : Calls Tryz.prog 79 #[t.val] w fun e w' => e = .returned (.int .i64 (kindF t)) ∧ Below w.heap.size w w' := by
  have HB := Lib.hid ((Below.refl w.heap.size w).alloc (Nat.le_refl _) (.cells #[.int .i64 t.kd, .int .i64 t.n, .int .i64 t.at_, .string t.tx] 96))
  have HK := Lib.hid (Blk.mk (heap_alloc_new w (.cells #[.int .i64 t.kd, .int .i64 t.n, .int .i64 t.at_, .string t.tx] 96)) : Blk _ w.heap.size 96 [.int .i64 t.kd, .int .i64 t.n, .int .i64 t.at_, .string t.tx])
  have HG := Lib.hid (show ∃ g, w.heap.size = g from ⟨_, rfl⟩)
  unfold Tok.val
  go_enter Tryz.func79, Tryz.ntmps79
  go_upto_region 1 with fail
  obtain ⟨g1, hg1⟩ := HG.out
  rw [hg1]
  have HGE := Lib.hid hg1
  clear HG hg1
  generalize w.alloc (.cells #[.int .i64 t.kd, .int .i64 t.n, .int .i64 t.at_, .string t.tx] 96) = W1 at *
  rw [HGE.out] at HK
  by_cases hk : t.kd = 2
  · have t1 : (t.kd == 2) = true := by rw [hk]; rfl
    have HE := Lib.hid (show kindF t = (firstK (fun k => decide (t.tx = wordX k)) 4 17).getD 0 by unfold kindF; rw [if_pos hk])
    clear hk
    go_wp2_with fail
    go_loopg [3] 4 (fun g x3 wr => ∃ kk : Int, kk + g = 21 ∧ 17 ≤ kk ∧ x3 = .int .i64 kk ∧ kindF t = (firstK (fun k => decide (t.tx = wordX k)) g kk).getD 0 ∧ Blk wr g1 96 [.int .i64 t.kd, .int .i64 t.n, .int .i64 t.at_, .string t.tx] ∧ Below w.heap.size w wr)
    case atStart => exact ⟨17, by omega, by omega, rfl, HE.out, HK.out, HB.out⟩
    case round =>
      obtain ⟨kk, hkg, hk0, rfl, hkf, hblk, hbel⟩ := hrel
      have HKF := Lib.hid hkf; have HK2 := Lib.hid hblk; have HB2 := Lib.hid hbel
      clear hkf hblk hbel HK HB HE
      obtain ⟨e0, e1, e2, e3⟩ := blk_cells4 HK2.out
      cases gk with
      | zero =>
        have hno : ¬ kk ≤ 20 := by omega
        go_wp2_with fail
        go_ret
        exact ⟨by rw [HKF.out]; rfl, HB2.out⟩
      | succ g =>
        have hle : kk ≤ 20 := by omega
        have HST := Lib.hid (show firstK (fun k => decide (t.tx = wordX k)) (g + 1) kk = if decide (t.tx = wordX kk) = true then some kk else firstK (fun k => decide (t.tx = wordX k)) g (kk + 1) from rfl)
        have hwx := fun (W : World) => (word_x kk W).mono (fun e w' hh => show e = .returned (.string (wordX kk)) ∧ Below W.heap.size W w' from ⟨hh.1, hh.2 ▸ Below.refl _ _⟩)
        obtain ⟨wx, hwx2⟩ : ∃ x, wordX kk = x := ⟨_, rfl⟩
        rw [hwx2] at hwx HST
        have HWX := Lib.hid hwx
        clear hwx hwx2
        obtain ⟨eb, hgb⟩ : ∃ b, (t.tx.toList == wx.toList) = b := ⟨_, rfl⟩
        have HEB := Lib.hid (show decide (t.tx = wx) = eb by
          rw [← hgb]
          by_cases hx : t.tx = wx
          · rw [hx]; simp
          · rw [decide_eq_false hx]; exact (beq_eq_false_iff_ne.2 (fun h => hx (by apply ByteArray.ext; apply Array.toList_inj.1; simpa [ByteArray.toList_eq] using h))).symm)
        rw [HEB.out] at HST
        go_upto_region 4 with fail
        clear e0 e1 e2 e3
        refine wp_region_facts (R := fun a b => Below a.heap.size a b) (G := (fun W => Blk W g1 96 [.int .i64 t.kd, .int .i64 t.n, .int .i64 t.at_, .string t.tx] ∧ Below w.heap.size w W)) (V := fun i' u' W => match i' with | 0 => u' = .pointer (some ⟨g1, 3, none⟩) | 1 => u' = .string t.tx | 2 => u' = .int .i64 kk | 3 => u' = .string wx | 4 => u' = .bool eb | _ => True) (by kernel_rfl) (fun w => Below.refl _ _) (fun a b c h1 h2 => h1.trans (h2.mono h1.size)) (by kernel_rfl) (by kernel_rfl) ?hG ⟨?o0, ?o1, ?o2, ?o3, ?o4, trivial⟩ ?hend
        case o0 =>
          intro a w hfr hG hd
          refine ⟨fun hw => ?_, fun hw => absurd hw (by simp [Region.wanted])⟩
          have s1 : a.tmps.getD 1 undef = .pointer (some ⟨g1, 0, none⟩) := hfr.at 1 (by kernel_rfl)
          refine op_yields (.pointer (some ⟨g1, 3, none⟩)) ?_ ?_ ?_
          · simp only [execOp, resolve, List.map_toArray, List.map_cons, List.map_nil, Act.eval, s1]; simp [go_sem, -Array.getD_eq_getD_getElem?, s1]
          · exact Below.refl _ _
          · exact (fun _ _ => rfl)
        case o1 =>
          intro a w hfr hG hd
          obtain ⟨d0, _⟩ := hd
          refine ⟨fun hw => ?_, fun hw => absurd hw (by simp [Region.wanted])⟩
          have s13 : a.tmps.getD 13 undef = .pointer (some ⟨g1, 3, none⟩) := (d0 rfl).now
          have e3 := hG.now.1.cell 3; simp only [List.getElem?_cons_zero, List.getElem?_cons_succ] at e3
          refine op_yields (.string t.tx) ?_ ?_ ?_
          · simp only [execOp, resolve, List.map_toArray, List.map_cons, List.map_nil, Act.eval, s13]; simp [go_sem, -Array.getD_eq_getD_getElem?, s13, e3, e3]
          · exact Below.refl _ _
          · exact (fun _ _ => rfl)
        case o2 =>
          intro a w hfr hG hd
          refine ⟨fun hw => ?_, fun hw => absurd hw (by simp [Region.wanted])⟩
          have s3 : a.tmps.getD 3 undef = .int .i64 kk := hfr.at 3 (by kernel_rfl)
          refine op_yields (.int .i64 kk) ?_ ?_ ?_
          · simp only [execOp, resolve, List.map_toArray, List.map_cons, List.map_nil, Act.eval, s3]; simp [go_sem, -Array.getD_eq_getD_getElem?, s3]
          · exact Below.refl _ _
          · exact (fun _ _ => rfl)
        case o3 =>
          intro a w hfr hG hd
          obtain ⟨d0, _⟩ := hd
          refine ⟨fun hw => ?_, fun hw => absurd hw (by simp [Region.wanted])⟩
          have s15 : a.tmps.getD 15 undef = .int .i64 kk := (d0 rfl).now
          refine op_calls2 ((HWX.out w).mono fun e' w' hh => ⟨_, hh.1, hh.2, (fun _ _ => rfl)⟩) ?_
          simp only [execOp, resolve, List.map_toArray, List.map_cons, List.map_nil, Act.eval, s15]; simp [go_sem, -Array.getD_eq_getD_getElem?, s15]
        case o4 =>
          intro a w hfr hG hd
          obtain ⟨d0, d1, _⟩ := hd
          refine ⟨fun hw => ?_, fun hw => absurd hw (by simp [Region.wanted])⟩
          have s14 : a.tmps.getD 14 undef = .string t.tx := (d0 rfl).now
          have s16 : a.tmps.getD 16 undef = .string wx := (d1 rfl).now
          refine op_yields (.bool eb) ?_ ?_ ?_
          · simp only [execOp, resolve, List.map_toArray, List.map_cons, List.map_nil, Act.eval, s14, s16]; simp [go_sem, -Array.getD_eq_getD_getElem?, s14, s16, hgb]
          · exact Below.refl _ _
          · exact (fun _ _ => rfl)
        case hG => exact fun w' hb => ⟨HK2.out.below ((Below.refl _ _).drew.trans (hb.mono (by simp))) HK2.out.lt, HB2.out.trans ((Below.refl _ _).drew.trans (hb.mono (by simp; exact HB2.out.size)))⟩
        case hend =>
          intro vs w' hG hv
          have key : vs 4 = .bool eb := by
            obtain ⟨_, _, _, _, h4, _⟩ := hv
            exact h4.now
          obtain ⟨hk3, hb3⟩ := hG.now
          have HK3 := Lib.hid hk3; have HB3 := Lib.hid hb3
          clear hv hG hk3 hb3 HK2 HB2 HWX hgb
          simp only [putAll, Act.put, key]
          clear key
          go_simp
          cases eb with
          | true =>
            have HE := Lib.hid (show kindF t = kk by rw [HKF.out, HST.out, if_pos rfl]; rfl)
            go_wp2_with fail
            go_ret
            exact ⟨by rw [HE.out]; rfl, HB3.out⟩
          | false =>
            have HE := Lib.hid (show kindF t = (firstK (fun k => decide (t.tx = wordX k)) g (kk + 1)).getD 0 by rw [HKF.out, HST.out, if_neg (by simp)])
            have i1 : IntKind.i64.wrap (kk + 1) = kk + 1 := by rw [IntKind.wrap_i64]; omega
            go_wp2_with fail
            go_roundg g
            case measure => omega
            case rel => exact ⟨kk + 1, by omega, by omega, rfl, HE.out, HK3.out, HB3.out⟩
  · have t1 : (t.kd == 2) = false := by rw [beq_eq_false_iff_ne]; exact hk
    have HE := Lib.hid (show kindF t = 0 by unfold kindF; rw [if_neg hk])
    obtain ⟨e0, e1, e2, e3⟩ := blk_cells4 HK.out
    clear hk
    go_wp2_with fail
    go_loopg [3] 1 (fun g x3 wr => W1 = wr ∧ x3 = .int .i64 17)
    case atStart => exact ⟨rfl, rfl⟩
    case round =>
      obtain ⟨rfl, rfl⟩ := hrel
      go_wp2_with fail
      go_ret
      exact ⟨by rw [HE.out]; rfl, HB.out⟩
/-- The sign's kind between two kids, and where the reader is then. -/
def betweenF (ts : List Tok) (en : Int) (s : PS) : Int × PS := match firstK (fun k => isF ts s (if 14 ≤ k then 2 else 4) (signX k)) 14 3 with | some k => (k, nextF s) | none => (0, failF ts en s 1)
set_option maxHeartbeats 4000000 in
theorem between_any (b : Nat) (A : Option Addr) (n c : Nat) (ts : List Tok) (en : Int) (s : PS) (w : World) (h : RdAt b A n c ts en s w) (hn : n ≤ 1000000) :
    Calls Tryz.prog 96 #[.pointer (some ⟨b, 0, none⟩)] w fun e w' => e = .returned (.int .i64 (betweenF ts en s).1) ∧ Moved b A n c ts en (betweenF ts en s).2 w w' := by
  have HR := Lib.hid (show Moved b A n c ts en s w w from ⟨h, Only.refl _ _⟩)
  clear h
  have HE : Hid (∃ o, firstK (fun k => isF ts s (if 14 ≤ k then 2 else 4) (signX k)) 14 3 = o ∧ betweenF ts en s = match o with | some k => (k, nextF s) | none => (0, failF ts en s 1)) := Lib.hid ⟨_, rfl, rfl⟩
  obtain ⟨o, ho, hbo⟩ := HE.out
  have HBO := Lib.hid hbo
  have HO := Lib.hid ho
  clear ho hbo HE
  go_enter Tryz.func96, Tryz.ntmps96
  go_wp2_with fail
  go_loopg [3, 4] 14 (fun g x3 x4 wr => ∃ kk : Int, kk + g = 17 ∧ 3 ≤ kk ∧ x3 = .int .i64 kk ∧ firstK (fun k => isF ts s (if 14 ≤ k then 2 else 4) (signX k)) g kk = o ∧ Moved b A n c ts en s w wr)
  case atStart => exact ⟨3, by omega, by omega, rfl, HO.out, HR.out⟩
  case round =>
    obtain ⟨kk, hkg, hk0, rfl, hkf, hmv⟩ := hrel
    have HKF := Lib.hid hkf; have HM := Lib.hid hmv
    clear hkf hmv HR HO
    cases gk with
    | zero =>
      have hno : ¬ kk ≤ 16 := by omega
      have HE2 := Lib.hid (show betweenF ts en s = (0, failF ts en s 1) by
        have h1 : o = none := by rw [← HKF.out]; rfl
        rw [HBO.out, h1])
      have HF := Lib.hid (fail_any b A n c ts en s 1 wr HM.out.rd)
      go_wp2_with fail
      (with_reducible refine HF.out.mono ?_); rintro e w2 ⟨rfl, hm⟩
      have HX := Lib.hid (show Moved b A n c ts en (betweenF ts en s).2 w w2 from ⟨by rw [HE2.out]; exact hm.rd, HM.out.only.trans hm.only⟩)
      clear hm
      go_wp2_with fail
      go_ret
      exact ⟨by rw [HE2.out]; rfl, HX.out⟩
    | succ g =>
      have hle : kk ≤ 16 := by omega
      have HST := Lib.hid (show firstK (fun k => isF ts s (if 14 ≤ k then 2 else 4) (signX k)) (g + 1) kk = if isF ts s (if 14 ≤ kk then 2 else 4) (signX kk) = true then some kk else firstK (fun k => isF ts s (if 14 ≤ k then 2 else 4) (signX k)) g (kk + 1) from rfl)
      obtain ⟨tk, htk⟩ : ∃ z : Int, (if 14 ≤ kk then 2 else 4) = z := ⟨_, rfl⟩
      have htk0 : tk ≠ 0 := by rw [← htk]; split <;> decide
      have HSK := Lib.hid (fun W (h : RdAt b A n c ts en s W) => skip_any b A n c ts en s tk (signX kk) W h htk0 hn)
      have HSD : Hid (skipF ts s tk (signX kk) = if isF ts s tk (signX kk) = true then (true, nextF s) else (false, s)) := Lib.hid rfl
      rw [htk] at HST
      have HSX := Lib.hid (fun (W : World) => sign_x kk W)
      obtain ⟨q, hq⟩ : ∃ q, isF ts s tk (signX kk) = q := ⟨_, rfl⟩
      rw [hq] at HST HSD
      obtain ⟨sx, hsx⟩ : ∃ x, signX kk = x := ⟨_, rfl⟩
      rw [hsx] at HSX HSK HSD
      have HQ := Lib.hid hq
      clear hq hsx htk0
      have hskp : (skipF ts s tk sx).1 = q := by rw [HSD.out]; cases q <;> rfl
      have HSKP := Lib.hid hskp
      clear hskp
      by_cases h14 : 14 ≤ kk
      · obtain rfl : (2 : Int) = tk := by rw [← htk, if_pos h14]
        have HTK := Lib.hid htk
        clear htk
        go_wp2_with fail
        (with_reducible refine (HSX.out _).mono ?_); rintro e w2 ⟨rfl, rfl⟩
        go_wp2_with fail
        (with_reducible refine (HSK.out _ HM.out.rd).mono ?_); rintro e w2 ⟨rfl, hm⟩
        rw [HSKP.out]
        have HM2 := Lib.hid hm
        have HO2 := Lib.hid (HM.out.only.trans hm.only)
        clear hm
        cases q with
        | true =>
          have HE2 := Lib.hid (show betweenF ts en s = (kk, nextF s) by
            have h1 : o = some kk := by rw [← HKF.out, HST.out, if_pos rfl]
            rw [HBO.out, h1])
          have HX := Lib.hid (show Moved b A n c ts en (betweenF ts en s).2 w w2 from ⟨by rw [HE2.out]; have h := HM2.out.rd; rw [HSD.out, if_pos rfl] at h; exact h, HO2.out⟩)
          go_wp2_with fail
          go_ret
          exact ⟨by rw [HE2.out]; rfl, HX.out⟩
        | false =>
          have HN := Lib.hid (show firstK (fun k => isF ts s (if 14 ≤ k then 2 else 4) (signX k)) g (kk + 1) = o by rw [← HKF.out, HST.out, if_neg (by simp)])
          have HX := Lib.hid (show Moved b A n c ts en s w w2 from ⟨by have h := HM2.out.rd; rw [HSD.out, if_neg (by simp)] at h; exact h, HO2.out⟩)
          have i1 : IntKind.i64.wrap (kk + 1) = kk + 1 := by rw [IntKind.wrap_i64]; omega
          go_wp2_with fail
          go_roundg g
          case measure => omega
          case rel => exact ⟨kk + 1, by omega, by omega, rfl, HN.out, HX.out⟩
      · obtain rfl : (4 : Int) = tk := by rw [← htk, if_neg h14]
        have HTK := Lib.hid htk
        clear htk
        go_wp2_with fail
        (with_reducible refine (HSX.out _).mono ?_); rintro e w2 ⟨rfl, rfl⟩
        go_wp2_with fail
        (with_reducible refine (HSK.out _ HM.out.rd).mono ?_); rintro e w2 ⟨rfl, hm⟩
        rw [HSKP.out]
        have HM2 := Lib.hid hm
        have HO2 := Lib.hid (HM.out.only.trans hm.only)
        clear hm
        cases q with
        | true =>
          have HE2 := Lib.hid (show betweenF ts en s = (kk, nextF s) by
            have h1 : o = some kk := by rw [← HKF.out, HST.out, if_pos rfl]
            rw [HBO.out, h1])
          have HX := Lib.hid (show Moved b A n c ts en (betweenF ts en s).2 w w2 from ⟨by rw [HE2.out]; have h := HM2.out.rd; rw [HSD.out, if_pos rfl] at h; exact h, HO2.out⟩)
          go_wp2_with fail
          go_ret
          exact ⟨by rw [HE2.out]; rfl, HX.out⟩
        | false =>
          have HN := Lib.hid (show firstK (fun k => isF ts s (if 14 ≤ k then 2 else 4) (signX k)) g (kk + 1) = o by rw [← HKF.out, HST.out, if_neg (by simp)])
          have HX := Lib.hid (show Moved b A n c ts en s w w2 from ⟨by have h := HM2.out.rd; rw [HSD.out, if_neg (by simp)] at h; exact h, HO2.out⟩)
          have i1 : IntKind.i64.wrap (kk + 1) = kk + 1 := by rw [IntKind.wrap_i64]; omega
          go_wp2_with fail
          go_roundg g
          case measure => omega
          case rel => exact ⟨kk + 1, by omega, by omega, rfl, HN.out, HX.out⟩
end Go.Proofs.YtcaapbbbekggiaaGreatDoor

namespace Go.Proofs.YtcaapbbbekggiaaGreatDoor
open Go.ChangeShapes Go.WideShapes Go.ChangeAt Go.RowKit
set_option linter.unusedVariables false
set_option linter.unusedSimpArgs false
set_option maxRecDepth 100000
/-- A matcher's sign: its kind, and where the reader is then. -/
def opF (ts : List Tok) (en : Int) (s : PS) : Int × PS := if isF ts s 4 ⟨#[61]⟩ = true then (1, nextF s) else if isF ts s 4 ⟨#[33, 61]⟩ = true then (2, nextF s) else if isF ts s 4 ⟨#[94, 61]⟩ = true then (3, nextF s) else if isF ts s 4 ⟨#[33, 94]⟩ = true then (4, nextF s) else (0, failF ts en s 1)
def matcherF (ts : List Tok) (en : Int) (s : PS) : Mtc × PS :=
  (((takeF ts en s 2).1.tx, (takeF ts en (opF ts en (takeF ts en s 2).2).2 3).1.tx, (opF ts en (takeF ts en s 2).2).1), (takeF ts en (opF ts en (takeF ts en s 2).2).2 3).2)
section
variable {b n c : Nat} {A : Option Addr} {ts : List Tok} {en : Int} {s : PS} {kd : Int} {tx : ByteArray} {w : World}
theorem skip_yes (h : RdAt b A n c ts en s w) (hk : kd ≠ 0) (hn : n ≤ 1000000) (hq : isF ts s kd tx = true) :
    Calls Tryz.prog 94 #[.pointer (some ⟨b, 0, none⟩), .int .i64 kd, .string tx] w fun e w' => e = .returned (.bool true) ∧ Moved b A n c ts en (nextF s) w w' := by
  have h1 := skip_any b A n c ts en s kd tx w h hk hn
  unfold skipF at h1; rw [if_pos hq] at h1; exact h1
theorem skip_no (h : RdAt b A n c ts en s w) (hk : kd ≠ 0) (hn : n ≤ 1000000) (hq : isF ts s kd tx = false) :
    Calls Tryz.prog 94 #[.pointer (some ⟨b, 0, none⟩), .int .i64 kd, .string tx] w fun e w' => e = .returned (.bool false) ∧ Moved b A n c ts en s w w' := by
  have h1 := skip_any b A n c ts en s kd tx w h hk hn
  unfold skipF at h1; rw [if_neg (by rw [hq]; simp)] at h1; exact h1
end
/-- Within matcher: both boxes, the reader. -/
structure MbAt (b : Nat) (A : Option Addr) (n c : Nat) (ts : List Tok) (en : Int) (s : PS) (w0 : World) (g2 g3 : Nat) (a v : ByteArray) (k : Int) (w : World) : Prop where
  rd : RdAt b A n c ts en s w
  only : Only b w0 w
  z : Blk w g2 57 [.string ⟨#[]⟩, .string ⟨#[]⟩, .int .i64 0]
  m : Blk w g3 57 [.string a, .string v, .int .i64 k]
  l2 : w0.heap.size ≤ g2
  l3 : g2 < g3
  lb : b < w0.heap.size
section
variable {b n c g2 g3 : Nat} {A : Option Addr} {ts : List Tok} {en : Int} {s s' : PS} {w0 w w' : World} {a v : ByteArray} {k : Int}
theorem MbAt.moved (h : MbAt b A n c ts en s w0 g2 g3 a v k w) (hm : Moved b A n c ts en s' w w') : MbAt b A n c ts en s' w0 g2 g3 a v k w' :=
  ⟨hm.rd, h.only.trans hm.only, h.z.only hm.only (by have := h.l2; have := h.lb; omega), h.m.only hm.only (by have := h.l2; have := h.lb; have := h.l3; omega), h.l2, h.l3, h.lb⟩
theorem MbAt.kind (h : MbAt b A n c ts en s w0 g2 g3 a v k w) (h0 : RdAt b A n c ts en s' w0) (j : Int) : MbAt b A n c ts en s w0 g2 g3 a v j (w.setCell ⟨g3, 2, none⟩ (.int .i64 j)) := by
  have h2 := h.l2; have h3 := h.l3; have hb := h.lb
  have ho := h.only.setNew (g := g3) (by omega) 2 (.int .i64 j)
  exact ⟨h0.of (h.rd.blk.far (p := ⟨g3, 2, none⟩) (show b ≠ g3 by omega) _) ho h.rd.le, ho, h.z.far (p := ⟨g3, 2, none⟩) (show g2 ≠ g3 by omega) _, h.m.set 2 _, h2, h3, hb⟩
theorem MbAt.val (h : MbAt b A n c ts en s w0 g2 g3 a v k w) (h0 : RdAt b A n c ts en s' w0) (x : ByteArray) : MbAt b A n c ts en s w0 g2 g3 a x k (w.setCell ⟨g3, 1, none⟩ (.string x)) := by
  have h2 := h.l2; have h3 := h.l3; have hb := h.lb
  have ho := h.only.setNew (g := g3) (by omega) 1 (.string x)
  exact ⟨h0.of (h.rd.blk.far (p := ⟨g3, 1, none⟩) (show b ≠ g3 by omega) _) ho h.rd.le, ho, h.z.far (p := ⟨g3, 1, none⟩) (show g2 ≠ g3 by omega) _, h.m.set 1 _, h2, h3, hb⟩
theorem blk_cells3 {w : World} {b : Nat} {t : TypeId} {x0 x1 x2 : Value} (h : Blk w b t [x0, x1, x2]) : w.cell? ⟨b, 0, none⟩ = some x0 ∧ w.cell? ⟨b, 1, none⟩ = some x1 ∧ w.cell? ⟨b, 2, none⟩ = some x2 := ⟨h.cell 0, h.cell 1, h.cell 2⟩
end
set_option maxHeartbeats 4000000 in
theorem matcher_x (b : Nat) (A : Option Addr) (n c : Nat) (ts : List Tok) (en : Int) (s : PS) (w : World) (h : RdAt b A n c ts en s w) (hn : n ≤ 1000000) :
    Calls Tryz.prog 95 #[.pointer (some ⟨b, 0, none⟩)] w fun e w' => e = .returned (.agg #[.string (matcherF ts en s).1.1, .string (matcherF ts en s).1.2.1, .int .i64 (matcherF ts en s).1.2.2]) ∧ Moved b A n c ts en (matcherF ts en s).2 w w' := by
  have HR0 := Lib.hid h
  have HR := Lib.hid (h.alloc (.cells #[.string ⟨#[]⟩, .string ⟨#[]⟩, .int .i64 0] 57))
  have HB := Lib.hid ((Below.refl w.heap.size w).alloc (Nat.le_refl _) (.cells #[.string ⟨#[]⟩, .string ⟨#[]⟩, .int .i64 0] 57))
  have HK := Lib.hid (Blk.mk (heap_alloc_new w (.cells #[.string ⟨#[]⟩, .string ⟨#[]⟩, .int .i64 0] 57)) : Blk _ w.heap.size 57 [.string ⟨#[]⟩, .string ⟨#[]⟩, .int .i64 0])
  have HT1 := Lib.hid (take_any b A n c ts en s 2 (w.alloc (.cells #[.string ⟨#[]⟩, .string ⟨#[]⟩, .int .i64 0] 57)) (h.alloc _) (by decide) hn)
  have hbw : b < w.heap.size := h.blk.lt
  have HMF : Hid (∃ t1 s1 k2 s2 t3 s3, takeF ts en s 2 = (t1, s1) ∧ opF ts en s1 = (k2, s2) ∧ takeF ts en s2 3 = (t3, s3) ∧ matcherF ts en s = ((t1.tx, t3.tx, k2), s3)) := Lib.hid ⟨_, _, _, _, _, _, rfl, rfl, rfl, rfl⟩
  obtain ⟨t1, s1, k2, s2, t3, s3, e1, e2, e3, e4⟩ := HMF.out
  rw [e1] at HT1
  have HOP := Lib.hid e2; have HE3 := Lib.hid e3; have HE4 := Lib.hid e4
  clear h e1 e2 e3 e4 HMF
  have HG := Lib.hid (show ∃ g, w.heap.size = g from ⟨_, rfl⟩)
  unfold Tok.val at HT1
  go_enter Tryz.func95, Tryz.ntmps95
  go_upto_region 1 with fail
  obtain ⟨g2, hg2'⟩ := HG.out
  rw [hg2']
  have HGE := Lib.hid hg2'
  rw [hg2'] at hbw
  clear HG hg2'
  generalize w.alloc (.cells #[.string ⟨#[]⟩, .string ⟨#[]⟩, .int .i64 0] 57) = W1 at *
  rw [HGE.out] at HK
  go_wp2_with fail
  (with_reducible refine HT1.out.mono ?_); rintro e w1 ⟨rfl, hm1⟩
  have HMB : Hid (MbAt b A n c ts en s1 w g2 w1.heap.size t1.tx ⟨#[]⟩ 0 (w1.alloc (.cells #[.string t1.tx, .string ⟨#[]⟩, .int .i64 0] 57))) := Lib.hid ⟨hm1.rd.alloc _, ((Only.of_below HB.out).trans hm1.only).alloc _, (HK.out.only hm1.only (by omega)).alloc _, Blk.mk (heap_alloc_new w1 _), by rw [HGE.out]; exact Nat.le_refl _, by have := HK.out.lt; have := hm1.only.size; omega, by rw [HGE.out]; exact hbw⟩
  have HG1 := Lib.hid (show ∃ g, w1.heap.size = g from ⟨_, rfl⟩)
  clear hm1 HT1 HR HB HK
  go_upto_block 0 with fail
  obtain ⟨g3, hg3'⟩ := HG1.out
  rw [hg3']
  have HG3 := Lib.hid hg3'
  clear HG1 hg3'
  generalize w1.alloc (.cells #[.string t1.tx, .string ⟨#[]⟩, .int .i64 0] 57) = W2 at *
  rw [HG3.out] at HMB
  go_cut [] from 8 to 25 (fun wx => MbAt b A n c ts en s2 w g2 g3 t1.tx ⟨#[]⟩ k2 wx)
  case first =>
    have HM0 := HMB
    cases hq0 : isF ts s1 4 ⟨#[61]⟩ with
    | true =>
      have HX := Lib.hid (show (k2, s2) = ((1 : Int), nextF s1) by rw [← HOP.out]; unfold opF; rw [if_pos hq0])
      have HS := Lib.hid (skip_yes (tx := ⟨#[61]⟩) HM0.out.rd (show (4 : Int) ≠ 0 by decide) hn hq0)
      clear hq0
      go_wp2_with fail
      (with_reducible refine HS.out.mono ?_); rintro e w5 ⟨rfl, hm⟩
      have HMX := Lib.hid (HM0.out.moved hm)
      have HMY := Lib.hid (HMX.out.kind HR0.out 1)
      clear hm
      obtain ⟨x0, x1, x2⟩ := blk_cells3 HMX.out.m
      have f2 := HMX.out.m.frozen 2
      go_wp2_with fail
      go_meet
      have hx := HX.out
      injection hx with hx1 hx2
      rw [hx1, hx2]; exact HMY.out
    | false =>
      have HS := Lib.hid (skip_no (tx := ⟨#[61]⟩) HM0.out.rd (show (4 : Int) ≠ 0 by decide) hn hq0)
      go_wp2_with fail
      (with_reducible refine HS.out.mono ?_); rintro e w5 ⟨rfl, hm⟩
      have HM1 := Lib.hid (HM0.out.moved hm)
      clear hm HS
      cases hq1 : isF ts s1 4 ⟨#[33, 61]⟩ with
      | true =>
        have HX := Lib.hid (show (k2, s2) = ((2 : Int), nextF s1) by rw [← HOP.out]; unfold opF; rw [if_neg (by rw [hq0]; simp), if_pos hq1])
        have HS := Lib.hid (skip_yes (tx := ⟨#[33, 61]⟩) HM1.out.rd (show (4 : Int) ≠ 0 by decide) hn hq1)
        clear hq0 hq1
        go_wp2_with fail
        (with_reducible refine HS.out.mono ?_); rintro e w6 ⟨rfl, hm⟩
        have HMX := Lib.hid (HM1.out.moved hm)
        have HMY := Lib.hid (HMX.out.kind HR0.out 2)
        clear hm
        obtain ⟨x0, x1, x2⟩ := blk_cells3 HMX.out.m
        have f2 := HMX.out.m.frozen 2
        go_wp2_with fail
        go_meet
        have hx := HX.out
        injection hx with hx1 hx2
        rw [hx1, hx2]; exact HMY.out
      | false =>
        have HS := Lib.hid (skip_no (tx := ⟨#[33, 61]⟩) HM1.out.rd (show (4 : Int) ≠ 0 by decide) hn hq1)
        go_wp2_with fail
        (with_reducible refine HS.out.mono ?_); rintro e w6 ⟨rfl, hm⟩
        have HM2 := Lib.hid (HM1.out.moved hm)
        clear hm HS
        cases hq2 : isF ts s1 4 ⟨#[94, 61]⟩ with
        | true =>
          have HX := Lib.hid (show (k2, s2) = ((3 : Int), nextF s1) by rw [← HOP.out]; unfold opF; rw [if_neg (by rw [hq0]; simp), if_neg (by rw [hq1]; simp), if_pos hq2])
          have HS := Lib.hid (skip_yes (tx := ⟨#[94, 61]⟩) HM2.out.rd (show (4 : Int) ≠ 0 by decide) hn hq2)
          clear hq0 hq1 hq2
          go_wp2_with fail
          (with_reducible refine HS.out.mono ?_); rintro e w7 ⟨rfl, hm⟩
          have HMX := Lib.hid (HM2.out.moved hm)
          have HMY := Lib.hid (HMX.out.kind HR0.out 3)
          clear hm
          obtain ⟨x0, x1, x2⟩ := blk_cells3 HMX.out.m
          have f2 := HMX.out.m.frozen 2
          go_wp2_with fail
          go_meet
          have hx := HX.out
          injection hx with hx1 hx2
          rw [hx1, hx2]; exact HMY.out
        | false =>
          have HS := Lib.hid (skip_no (tx := ⟨#[94, 61]⟩) HM2.out.rd (show (4 : Int) ≠ 0 by decide) hn hq2)
          go_wp2_with fail
          (with_reducible refine HS.out.mono ?_); rintro e w7 ⟨rfl, hm⟩
          have HM3 := Lib.hid (HM2.out.moved hm)
          clear hm HS
          cases hq3 : isF ts s1 4 ⟨#[33, 94]⟩ with
          | true =>
            have HX := Lib.hid (show (k2, s2) = ((4 : Int), nextF s1) by rw [← HOP.out]; unfold opF; rw [if_neg (by rw [hq0]; simp), if_neg (by rw [hq1]; simp), if_neg (by rw [hq2]; simp), if_pos hq3])
            have HS := Lib.hid (skip_yes (tx := ⟨#[33, 94]⟩) HM3.out.rd (show (4 : Int) ≠ 0 by decide) hn hq3)
            clear hq0 hq1 hq2 hq3
            go_wp2_with fail
            (with_reducible refine HS.out.mono ?_); rintro e w8 ⟨rfl, hm⟩
            have HMX := Lib.hid (HM3.out.moved hm)
            have HMY := Lib.hid (HMX.out.kind HR0.out 4)
            clear hm
            obtain ⟨x0, x1, x2⟩ := blk_cells3 HMX.out.m
            have f2 := HMX.out.m.frozen 2
            go_wp2_with fail
            go_meet
            have hx := HX.out
            injection hx with hx1 hx2
            rw [hx1, hx2]; exact HMY.out
          | false =>
            have HS := Lib.hid (skip_no (tx := ⟨#[33, 94]⟩) HM3.out.rd (show (4 : Int) ≠ 0 by decide) hn hq3)
            go_wp2_with fail
            (with_reducible refine HS.out.mono ?_); rintro e w8 ⟨rfl, hm⟩
            have HM4 := Lib.hid (HM3.out.moved hm)
            clear hm HS
            have HX := Lib.hid (show (k2, s2) = ((0 : Int), failF ts en s1 1) by rw [← HOP.out]; unfold opF; rw [if_neg (by rw [hq0]; simp), if_neg (by rw [hq1]; simp), if_neg (by rw [hq2]; simp), if_neg (by rw [hq3]; simp)])
            have HF := Lib.hid (fail_any b A n c ts en s1 1 _ HM4.out.rd)
            go_wp2_with fail
            (with_reducible refine HF.out.mono ?_); rintro e wf ⟨rfl, hmf⟩
            have HMF := Lib.hid (HM4.out.moved hmf)
            clear hmf
            go_wp2_with fail
            go_meet
            have hx := HX.out
            injection hx with hx1 hx2
            rw [hx1, hx2]; exact HMF.out
  case rest =>
    have HM := Lib.hid hcut
    have HT3 := Lib.hid (take_any b A n c ts en s2 3 _ hcut.rd (by decide) hn)
    rw [HE3.out] at HT3
    unfold Tok.val at HT3
    clear hcut HMB
    go_wp2_with fail
    (with_reducible refine HT3.out.mono ?_); rintro e w6 ⟨rfl, hm⟩
    have HM2 := Lib.hid (HM.out.moved hm)
    have HM3 := Lib.hid (HM2.out.val HR0.out t3.tx)
    clear hm HM HT3
    obtain ⟨x0, x1, x2⟩ := blk_cells3 HM2.out.m
    have f1 := HM2.out.m.frozen 1
    go_upto_region 12 with fail
    generalize w6.setCell ⟨g3, 1, none⟩ (.string t3.tx) = W6 at *
    clear x0 x1 x2 f1 HM2
    obtain ⟨x0, x1, x2⟩ := blk_cells3 HM3.out.m
    obtain ⟨y0, y1, y2⟩ := blk_cells3 HM3.out.z
    have f0 := HM3.out.z.frozen 0
    have f1 := HM3.out.z.frozen 1
    have f2 := HM3.out.z.frozen 2
    have hbg : b ≠ g2 := by have := HM3.out.l2; have := HM3.out.lb; omega
    have HO := Lib.hid (((HM3.out.only.setNew HM3.out.l2 0 (.string t1.tx)).setNew HM3.out.l2 1 (.string t3.tx)).setNew HM3.out.l2 2 (.int .i64 k2))
    have HZ := Lib.hid (((HM3.out.z.set 0 (.string t1.tx)).set 1 (.string t3.tx)).set 2 (.int .i64 k2))
    have HRF := Lib.hid (HR0.out.of (s' := s3) (((HM3.out.rd.blk.far (p := ⟨g2, 0, none⟩) hbg (.string t1.tx)).far (p := ⟨g2, 1, none⟩) hbg (.string t3.tx)).far (p := ⟨g2, 2, none⟩) hbg (.int .i64 k2)) HO.out HM3.out.rd.le)
    go_wp2_with fail
    obtain ⟨q0, q1, q2⟩ := blk_cells3 HZ.out
    refine bodyPost_ret (v := .agg #[.string t1.tx, .string t3.tx, .int .i64 k2]) (by simp [results, Tryz.results95, go_sem, q0, q1, q2]) rfl ?_
    exact ⟨by rw [HE4.out], by rw [HE4.out]; exact ⟨HRF.out, HO.out⟩⟩
end Go.Proofs.YtcaapbbbekggiaaGreatDoor

namespace Go.Proofs.YtcaapbbbekggiaaGreatDoor
open Go.ChangeShapes Go.WideShapes Go.ChangeAt Go.RowKit
set_option linter.unusedVariables false
set_option linter.unusedSimpArgs false
set_option maxRecDepth 100000
theorem Only.grown {b : Nat} {w w' : World} (h : Only b w w') : w.grownBy w' (some b) := ⟨h.os, h.tape, h.output, h.size, fun k hk hn => h.block k hk (fun e => hn (by rw [e]))⟩
theorem Only.of_grown {b : Nat} {w w' w2 : World} {row : Option Nat} (h : Only b w w') (hg : w'.grownBy w2 row) (hr : ∀ g, row = some g → w.heap.size ≤ g) : Only b w w2 :=
  ⟨Nat.le_trans h.size hg.size, hg.os.trans h.os, hg.tape.trans h.tape, hg.output.trans h.output, fun q hq hn => (hg.block q (Nat.lt_of_lt_of_le hq h.size) (fun e => by have := hr q e.symm; omega)).trans (h.block q hq hn)⟩
/-- How much a reader may still do. -/
def leftF (n : Nat) (s : PS) : Nat := if s.fe = 0 then n + 2 - s.p else 1
/-- Matchers up to the brace. -/
def msF (ts : List Tok) (en : Int) : Nat → List Mtc → PS → List Mtc × PS
  | 0, ms, s => (ms, s)
  | f + 1, ms, s => if s.fe = 0 then (if isF ts s 4 ⟨#[125]⟩ = true then (ms, nextF s) else
      msF ts en f (ms ++ [(matcherF ts en (if ms.length = 0 then s else mustF ts en s 4 ⟨#[44]⟩)).1]) (matcherF ts en (if ms.length = 0 then s else mustF ts en s 4 ⟨#[44]⟩)).2) else (ms, s)
theorem leftF_fail (ts : List Tok) (en : Int) (s : PS) (n : Nat) (e : Int) (he : e ≠ 0) (hp : s.p ≤ n) : leftF n (failF ts en s e) = 1 := by
  unfold failF leftF
  by_cases h : s.fe = 0
  · rw [if_pos h, if_neg he]
  · rw [if_neg h, if_neg h]
theorem leftF_pos (n : Nat) (s : PS) (hp : s.p ≤ n) : 1 ≤ leftF n s := by unfold leftF; split <;> omega
theorem leftF_next (n : Nat) (s : PS) (hf : s.fe = 0) (hp : s.p < n) : leftF n (nextF s) < leftF n s := by
  unfold leftF nextF
  simp only
  rw [if_pos hf, if_pos hf]; omega
theorem leftF_zero (n : Nat) (s : PS) (hf : s.fe = 0) (hp : s.p ≤ n) : 2 ≤ leftF n s := by unfold leftF; rw [if_pos hf]; omega
/-- A step within the tokens, that leaves no more to do. -/
def Steps (n : Nat) (s s' : PS) : Prop := s'.p ≤ n ∧ leftF n s' ≤ leftF n s
theorem Steps.trans {n : Nat} {a b c : PS} (h : Steps n a b) (k : Steps n b c) : Steps n a c := ⟨k.1, Nat.le_trans k.2 h.2⟩
section
variable {ts : List Tok} {en : Int} {s : PS} {n : Nat}
theorem failF_p (e : Int) : (failF ts en s e).p = s.p := by unfold failF; split <;> rfl
theorem step_fail (hp : s.p ≤ n) (e : Int) (he : e ≠ 0) : Steps n s (failF ts en s e) := ⟨by rw [failF_p]; exact hp, by rw [leftF_fail ts en s n e he hp]; exact leftF_pos n s hp⟩
theorem step_next (hf : s.fe = 0) (hp : s.p < n) : Steps n s (nextF s) := ⟨hp, Nat.le_of_lt (leftF_next n s hf hp)⟩
theorem step_must (hl : ts.length = n) (hp : s.p ≤ n) {kd : Int} (hk : kd ≠ 0) (tx : ByteArray) : Steps n s (mustF ts en s kd tx) := by
  unfold mustF
  by_cases h : isF ts s kd tx = true
  · rw [if_pos h]
    obtain ⟨h1, h2⟩ := isF_lt hk h
    exact step_next h1 (by omega)
  · rw [if_neg h]; exact step_fail hp 1 (by decide)
theorem step_take (hl : ts.length = n) (hp : s.p ≤ n) {kd : Int} (hk : kd ≠ 0) : Steps n s (takeF ts en s kd).2 ∧ (s.fe = 0 → leftF n (takeF ts en s kd).2 < leftF n s) := by
  unfold takeF
  by_cases h : (peekF ts s).kd = kd
  · rw [if_pos h]
    obtain ⟨h1, h2⟩ := peekF_lt (ts := ts) (s := s) (by rw [h]; exact hk)
    exact ⟨step_next h1 (by omega), fun hf => leftF_next n s hf (by omega)⟩
  · rw [if_neg h]
    refine ⟨step_fail hp 1 (by decide), fun hf => ?_⟩
    show leftF n (failF ts en s 1) < leftF n s
    rw [leftF_fail ts en s n 1 (by decide) hp]
    have := leftF_zero n s hf hp
    omega
theorem step_op (hl : ts.length = n) (hp : s.p ≤ n) : Steps n s (opF ts en s).2 := by
  unfold opF
  have key : ∀ tx, isF ts s 4 tx = true → Steps n s (nextF s) := fun tx h => by
    obtain ⟨h1, h2⟩ := isF_lt (by decide) h
    exact step_next h1 (by omega)
  by_cases h1 : isF ts s 4 ⟨#[61]⟩ = true
  · rw [if_pos h1]; exact key _ h1
  · rw [if_neg h1]
    by_cases h2 : isF ts s 4 ⟨#[33, 61]⟩ = true
    · rw [if_pos h2]; exact key _ h2
    · rw [if_neg h2]
      by_cases h3 : isF ts s 4 ⟨#[94, 61]⟩ = true
      · rw [if_pos h3]; exact key _ h3
      · rw [if_neg h3]
        by_cases h4 : isF ts s 4 ⟨#[33, 94]⟩ = true
        · rw [if_pos h4]; exact key _ h4
        · rw [if_neg h4]; exact step_fail hp 1 (by decide)
theorem step_matcher (hl : ts.length = n) (hp : s.p ≤ n) : Steps n s (matcherF ts en s).2 ∧ (s.fe = 0 → leftF n (matcherF ts en s).2 < leftF n s) := by
  unfold matcherF
  obtain ⟨h1, h2⟩ := step_take (en := en) hl hp (kd := 2) (by decide)
  have h3 := step_op (en := en) hl h1.1
  obtain ⟨h4, _⟩ := step_take (en := en) hl h3.1 (kd := 3) (by decide)
  refine ⟨(h1.trans h3).trans h4, fun hf => ?_⟩
  have := h2 hf
  have := h3.2
  have := h4.2
  simp only
  omega
/-- With a fault set a matcher changes nothing. -/
theorem matcher_fault (hl : ts.length = n) (hp : s.p ≤ n) : leftF n (matcherF ts en s).2 ≤ leftF n s := (step_matcher hl hp).1.2
end
end Go.Proofs.YtcaapbbbekggiaaGreatDoor

namespace Go.Proofs.YtcaapbbbekggiaaGreatDoor
open Go.ChangeShapes Go.WideShapes Go.ChangeAt Go.RowKit
set_option linter.unusedVariables false
set_option linter.unusedSimpArgs false
set_option maxRecDepth 100000
theorem prefix_no {l p : List UInt8} (h : l.length < p.length) : Lib.hasPrefix l p = false := by
  rw [← Lib.hasPrefix_of_take, decide_eq_false (by omega)]; rfl
theorem prefix_at {s x : ByteArray} {a m : Nat} (hm : a + x.size = m) (h : m ≤ s.size) : ((s.extract a m).toList == x.toList) = Lib.hasPrefix (s.data.toList.drop a) x.data.toList := by
  rw [← Lib.hasPrefix_of_take]
  have h1 : s.data.toList.length = s.size := by simp
  have h2 : x.data.toList.length = x.size := by simp
  rw [decide_eq_true (by rw [List.length_drop, h1, h2]; omega), Bool.true_and, Bool.eq_iff_iff, beq_iff_eq, beq_iff_eq]
  have h3 : (s.extract a m).data.toList = (s.data.toList.drop a).take x.data.toList.length := by
    rw [h2, ← hm]
    simp [ByteArray.data_extract, List.extract_eq_take_drop]
  constructor
  · intro e; rw [← h3, ba_ext e]
  · intro e
    rw [← h3] at e
    rw [ByteArray.ext (Array.toList_inj.1 e)]
end Go.Proofs.YtcaapbbbekggiaaGreatDoor
