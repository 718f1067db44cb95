/- Texts, merged in one. -/
import Derived.Test.YtlmakdclebbbkaaGreatBase13
import Derived.Test.YtlmakdclebbbkaaGreatBase20
namespace Go.Proofs.YtlmakdclebbbkaaGreat
open Go Go.RowKit
set_option linter.unusedVariables false
def backW : Nat → List Oper → Bool
  | _, [] => true
  | i, o :: l => o.after.toList.all (fun e => decide (e.on < i) || !Region.binds .any e) && backW (i + 1) l
theorem backW_at : ∀ {l : List Oper} {k : Nat}, backW k l = true → ∀ (i : Nat) (o : Oper), l[i]? = some o → ∀ e ∈ o.after.toList, Region.binds .any e = true → e.on < k + i
  | [], _, _, i, o, h, _, _, _ => by simp at h
  | p :: l, k, hb, 0, o, h, e, he, hbb => by
    simp at h; subst h
    simp only [backW, Bool.and_eq_true] at hb
    have h1 := List.all_eq_true.1 hb.1 e he
    rw [hbb] at h1
    simpa using h1
  | p :: l, k, hb, i + 1, o, h, e, he, hbb => by
    simp only [backW, Bool.and_eq_true] at hb
    have := backW_at hb.2 i o (by simpa using h) e he hbb
    omega
theorem all_listedW {ops : Array Oper} (hback : backW 0 ops.toList = true) {listed : Array Bool} (hs : listed.size = ops.size) (hr : Region.ready .any ops listed = []) : ∀ i, i < ops.size → listed.getD i true = true := by
  intro i
  induction i using Nat.strongRecOn with
  | _ i ih =>
    intro hi
    cases hc : listed.getD i true with
    | true => rfl
    | false =>
      have : i ∈ Region.ready .any ops listed := by
        rw [mem_ready]
        refine ⟨hc, ops[i], Array.getElem?_eq_getElem hi, fun e he hb => ?_⟩
        have h1 := backW_at hback i ops[i] (by simp [hi]) e (by simpa using he) hb
        have h2 := ih e.on (by omega) (by omega)
        have hlt : e.on < listed.size := by omega
        simp [hlt] at h2 ⊢
        exact h2
      rw [hr] at this
      cases this
def upd (L : Nat → Bool) (i j : Nat) : Bool := if j = i then true else L j
def waitsB (ops : Array Oper) (j i : Nat) : Bool := match ops[j]? with | some o => o.after.toList.any (fun e => e.on == i && Region.binds .any e) | none => true
structure Since (ops : Array Oper) (L : Nat → Bool) (i : Nat) : Prop where
  self : L i = false
  none_ : ∀ j, ops[j]? = none → L j = false
  closed : ∀ (j : Nat) (o : Oper), ops[j]? = some o → L j = true → ∀ e ∈ o.after.toList, Region.binds .any e = true → L e.on = true
  ready : ∀ o, ops[i]? = some o → ∀ e ∈ o.after.toList, Region.binds .any e = true → L e.on = true
theorem Since.not {ops : Array Oper} {L : Nat → Bool} {i k : Nat} (h : Since ops L i) (hk : L k = false) (j : Nat) (hj : waitsB ops j k = true) : L j = false := by
  unfold waitsB at hj
  cases ho : ops[j]? with
  | none => exact h.none_ j ho
  | some o =>
    rw [ho] at hj
    obtain ⟨e, he, h2⟩ := List.any_eq_true.1 hj
    rw [Bool.and_eq_true] at h2
    cases hl : L j with
    | false => rfl
    | true =>
      have h3 := h.closed j o ho hl e he h2.2
      have h4 : e.on = k := by simpa using h2.1
      rw [h4, hk] at h3; cases h3
theorem Since.done {ops : Array Oper} {L : Nat → Bool} {i : Nat} (h : Since ops L i) (hi : i < ops.size) (j : Nat) (hj : waitsB ops i j = true) : L j = true := by
  unfold waitsB at hj
  rw [Array.getElem?_eq_getElem hi] at hj
  obtain ⟨e, he, h2⟩ := List.any_eq_true.1 hj
  rw [Bool.and_eq_true] at h2
  have h3 := h.ready ops[i] (Array.getElem?_eq_getElem hi) e he h2.2
  have h4 : e.on = j := by simpa using h2.1
  rw [h4] at h3; exact h3
def DepsP (V : Nat → Value → Prop) (ops : Array Oper) (a : Act) : List Edge → Prop
  | [] => True
  | e :: l => (Region.binds .any e = true → V e.on (slotV ops a e.on)) ∧ DepsP V ops a l
def PostW (I : (Nat → Bool) → World → Prop) (V : Nat → Value → Prop) (L : Nat → Bool) (i : Nat) (o : Oper) (a : Act) (a' : Act) (w' : World) : Prop := ∃ v, a' = a.put o.dst v ∧ V i (match o.dst with | some _ => v | none => undef) ∧ I (upd L i) w'
def OkW (P : Program) (ops : Array Oper) (Q : Exit → Act → World → Prop) (I : (Nat → Bool) → World → Prop) (V : Nat → Value → Prop) (a0 : Act) (i : Nat) (o : Oper) : Prop :=
  ∀ a w L, FrameAt ops a0 a i → I L w → Since ops L i → DepsP V ops a o.after.toList →
    (Region.wanted o (yielded ops a.tmps) = true → o.wp P a w (PostW I V L i o a) Q) ∧ (Region.wanted o (yielded ops a.tmps) = false → V i undef ∧ I (upd L i) w)
def AllW (P : Program) (ops : Array Oper) (Q : Exit → Act → World → Prop) (I : (Nat → Bool) → World → Prop) (V : Nat → Value → Prop) (a0 : Act) : Nat → List Oper → Prop
  | _, [] => True
  | i, o :: l => OkW P ops Q I V a0 i o ∧ AllW P ops Q I V a0 (i + 1) l
def AllVP (V : Nat → Value → Prop) (vs : Nat → Value) : Nat → List Oper → Prop
  | _, [] => True
  | i, _ :: l => V i (vs i) ∧ AllVP V vs (i + 1) l
section
variable {P : Program} {ops : Array Oper} {Q : Exit → Act → World → Prop} {I : (Nat → Bool) → World → Prop} {V : Nat → Value → Prop} {a0 : Act}
theorem allW_at : ∀ {l : List Oper} {k : Nat}, AllW P ops Q I V a0 k l → ∀ (i : Nat) (o : Oper), l[i]? = some o → OkW P ops Q I V a0 (k + i) o
  | [], _, _, i, o, h => by simp at h
  | p :: l, k, ⟨h1, h2⟩, 0, o, h => by simp at h; subst h; exact h1
  | p :: l, k, ⟨h1, h2⟩, i + 1, o, h => by
    have := allW_at h2 i o (by simpa using h)
    rwa [show k + (i + 1) = k + 1 + i by omega]
theorem depsP_of {a : Act} {listed : Array Bool} (hf : ∀ i, listed.getD i false = true → V i (slotV ops a i)) :
    ∀ l : List Edge, (∀ e ∈ l, Region.binds .any e = true → listed.getD e.on false = true) → DepsP V ops a l
  | [], _ => trivial
  | e :: l, h => ⟨fun hb => hf _ (h e List.mem_cons_self hb), depsP_of hf l fun e' he' => h e' (List.mem_cons_of_mem _ he')⟩
theorem allVP_of {vs : Nat → Value} : ∀ (l : List Oper) (k : Nat), (∀ i, i < l.length → V (k + i) (vs (k + i))) → AllVP V vs k l
  | [], _, _ => trivial
  | o :: l, k, h => ⟨h 0 (by simp), allVP_of l (k + 1) fun i hi => by have := h (i + 1) (by simpa using hi); rwa [show k + (i + 1) = k + 1 + i by omega] at this⟩
structure InvW (P : Program) (ops : Array Oper) (I : (Nat → Bool) → World → Prop) (V : Nat → Value → Prop) (a0 : Act) (listed : Array Bool) (a : Act) (w : World) : Prop where
  fr : FrameOk ops a0 a
  early : ∀ k, (∀ j, slotOf ops j = some k → listed.getD j false = false) → a.tmps.getD k undef = a0.tmps.getD k undef
  closed : ∀ (j : Nat) (o : Oper), ops[j]? = some o → listed.getD j false = true → ∀ e ∈ o.after.toList, Region.binds .any e = true → listed.getD e.on false = true
  inv : I (fun j => listed.getD j false) w
  facts : ∀ i, listed.getD i false = true → V i (slotV ops a i)
theorem wpAny_writes (hb : apartB a0.tmps.size ops.toList = true) (hback : backW 0 ops.toList = true) (hall : AllW P ops Q I V a0 0 ops.toList)
    (hend : ∀ a w, FrameOk ops a0 a → I (fun j => decide (j < ops.size)) w → (∀ i, i < ops.size → V i (slotV ops a i)) → Q .normal a w) :
    ∀ (fuel : Nat) (listed : Array Bool) (a : Act) (w : World), listed.size = ops.size → left ops.size listed ≤ fuel → InvW P ops I V a0 listed a w → wpAny P .any ops Q fuel listed a w := by
  have fin : ∀ (listed : Array Bool) (a : Act) (w : World), listed.size = ops.size → InvW P ops I V a0 listed a w → Region.ready .any ops listed = [] → Q .normal a w := fun listed a w hs hI hr => by
    have hal : ∀ i, i < ops.size → listed.getD i false = true := fun i hi => by
      have h1 := all_listedW hback hs hr i hi
      have hlt : i < listed.size := by omega
      simp [hlt] at h1 ⊢
      exact h1
    refine hend a w hI.fr ?_ fun i hi => hI.facts i (hal i hi)
    have e : (fun j => listed.getD j false) = fun j => decide (j < ops.size) := by
      funext j
      by_cases hj : j < ops.size
      · rw [hal j hj, decide_eq_true hj]
      · rw [decide_eq_false hj]; simp [show listed.size ≤ j by omega]
    have h2 := hI.inv
    rwa [e] at h2
  intro fuel
  induction fuel with
  | zero =>
    intro listed a w hs hl hI
    have hr : Region.ready .any ops listed = [] := by
      rw [List.eq_nil_iff_forall_not_mem]
      intro i hi
      obtain ⟨h1, o, ho, _⟩ := mem_ready.1 hi
      have hlt : i < ops.size := (Array.getElem?_eq_some_iff.1 ho).1
      rw [left_none hs (by omega) i hlt] at h1
      cases h1
    exact ⟨hr, fin listed a w hs hI hr⟩
  | succ fuel ih =>
    intro listed a w hs hl hI
    refine ⟨fin listed a w hs hI, fun i hi => ?_⟩
    obtain ⟨h1, o, ho, hdone⟩ := mem_ready.1 hi
    have hlt : i < ops.size := (Array.getElem?_eq_some_iff.1 ho).1
    have hlt2 : i < listed.size := by omega
    have hok : OkW P ops Q I V a0 i o := by have := allW_at hall i o (by simpa using ho); rwa [Nat.zero_add] at this
    have hdst : o.dst = slotOf ops i := by unfold slotOf; rw [ho]; rfl
    have hself : listed.getD i false = false := by simp [hlt2] at h1 ⊢; exact h1
    have hfa : FrameAt ops a0 a i := ⟨hI.fr, fun k hk => hI.early k fun j hj => by
      have hj2 := hj
      unfold slotOf at hj2
      cases hoj : ops[j]? with
      | none => rw [hoj] at hj2; cases hj2
      | some oj =>
        rw [hoj] at hj2
        obtain ⟨e, he, heq, hbb⟩ := hk j oj hoj hj2
        cases hlj : listed.getD j false with
        | false => rfl
        | true =>
          have h5 := hI.closed j oj hoj hlj e he hbb
          rw [heq, hself] at h5; cases h5⟩
    have hsi : Since ops (fun j => listed.getD j false) i := ⟨hself, fun j hj => by
      have : ops.size ≤ j := by simpa using hj
      simp [show listed.size ≤ j by omega], hI.closed, fun o' ho' e he hbb => by
      rw [ho] at ho'; injection ho' with ho'; subst ho'
      exact hdone e (by simpa using he) hbb⟩
    obtain ⟨hw, hn⟩ := hok a w _ hfa hI.inv hsi (depsP_of hI.facts _ fun e he hbb => hdone e (by simpa using he) hbb)
    have go : ∀ v w', I (upd (fun j => listed.getD j false) i) w' → V i (match slotOf ops i with | some _ => v | none => undef) → wpAny P .any ops Q fuel (listed.setIfInBounds i true) (a.put (slotOf ops i) v) w' := fun v w' hiw hv => by
      refine ih _ _ _ (by simpa using hs) (by have := left_set hs h1; omega) ⟨hI.fr.put hb i v, fun k hk => ?_, fun j oj hoj hlj e he hbb => ?_, ?_, fun j hj => ?_⟩
      · have hne : slotOf ops i ≠ some k := fun h => by have := hk i h; simp [hlt2] at this
        have h6 := hI.early k fun j hj => by
          have h7 := hk j hj
          by_cases hij : i = j
          · subst hij; simp [hlt2] at h7
          · rwa [getD_set_ne false hij] at h7
        rw [← h6]
        cases hsl : slotOf ops i with
        | none => rfl
        | some d =>
          have hdk : d ≠ k := fun h => hne (by rw [hsl, h])
          simp [Act.put, Array.getElem?_setIfInBounds_ne hdk]
      · by_cases hij : i = j
        · subst hij
          rw [ho] at hoj; injection hoj with hoj; subst hoj
          have h8 := hdone e (by simpa using he) hbb
          by_cases hie : i = e.on
          · rw [← hie]; simp [hlt2]
          · rw [getD_set_ne false hie]; exact h8
        · rw [getD_set_ne false hij] at hlj
          have h8 := hI.closed j oj hoj hlj e he hbb
          by_cases hie : i = e.on
          · rw [← hie]; simp [hlt2]
          · rw [getD_set_ne false hie]; exact h8
      · have e : (fun j => (listed.setIfInBounds i true).getD j false) = upd (fun j => listed.getD j false) i := by
          funext j
          unfold upd
          by_cases hij : j = i
          · subst hij; rw [if_pos rfl]; simp [hlt2]
          · rw [if_neg hij, getD_set_ne false (fun h => hij h.symm)]
        rw [e]; exact hiw
      by_cases hij : i = j
      · subst hij
        have e : slotV ops (a.put (slotOf ops i) v) i = match slotOf ops i with | some _ => v | none => undef := by
          unfold slotV
          cases hsl : slotOf ops i with
          | none => rfl
          | some d =>
            have hd := slotOf_lt hb hsl
            rw [← hI.fr.size] at hd
            simp [Act.put, hd]
        rw [e]
        exact hv
      · rw [slotV_put_other hb hij]
        refine hI.facts j ?_
        rw [getD_set_ne false hij] at hj
        exact hj
    unfold wpOp
    rw [ho]
    simp only
    split
    · rename_i hwant
      refine .inl (Oper.wp_mono (fun a' w' h => ?_) (hw hwant))
      obtain ⟨v, rfl, hv, hiw⟩ := h
      rw [hdst] at hv ⊢
      exact go v w' hiw hv
    · rename_i hwant
      rw [hdst]
      have hn2 := hn (by simpa using hwant)
      exact go undef w hn2.2 (by cases slotOf ops i <;> exact hn2.1)
theorem wp_region_writes {id : Nat} {w : World} (hm : P.follows .mixedOrders = true) (hb : apartB a0.tmps.size ops.toList = true) (hback : backW 0 ops.toList = true)
    (hI : I (fun _ => false) { w with drawn := w.drawn + 1 }) (hall : AllW P ops Q I V a0 0 ops.toList)
    (hend : ∀ vs w', I (fun j => decide (j < ops.size)) w' → AllVP V vs 0 ops.toList → Q .normal (putAll vs 0 ops.toList a0) w') : (Code.region id ops true).wp P Q a0 w := by
  have hrep : ∀ j, (Array.replicate ops.size false).getD j false = false := fun j => by by_cases h : j < ops.size <;> simp [h]
  refine wp_region_any hm (wpAny_writes hb hback hall (fun a w' hfr hi hf => ?_) ops.size _ a0 _ (by simp) (by unfold left; exact Nat.le_trans (List.length_filter_le _ _) (by simp)) ⟨⟨rfl, rfl, fun _ _ => rfl⟩, fun _ _ => rfl, fun j o _ hj => ?_, ?_, fun i hi => ?_⟩)
  · have h1 := hend (slotV ops a) w' hi (allVP_of _ 0 fun i hi => by rw [Nat.zero_add]; exact hf i (by simpa using hi))
    have h2 : putAll (slotV ops a) 0 ops.toList a0 = a := by
      rw [putAll_congr ops.toList 0 a0 a hfr.defers.symm hfr.size.symm fun t hno => (hfr.same t fun j hj => ?_).symm]
      · refine putAll_same _ 0 fun i o ho => ?_
        rw [Nat.zero_add]
        have hdst : o.dst = slotOf ops i := by unfold slotOf; rw [show ops[i]? = some o by simpa using ho]; rfl
        rw [hdst]
        unfold slotV
        cases hsl : slotOf ops i with
        | none => rfl
        | some d =>
          refine act_ext rfl (by simp [Act.put]) fun k => ?_
          by_cases he : d = k
          · subst he
            have hd := slotOf_lt hb hsl
            rw [← hfr.size] at hd
            simp [Act.put, hd]
          · simp [Act.put, Array.getElem?_setIfInBounds_ne he]
      · unfold slotOf at hj
        cases ho : ops[j]? with
        | none => rw [ho] at hj; cases hj
        | some o => rw [ho] at hj; exact hno o (by simpa using Array.mem_of_getElem? ho) hj
    rwa [h2] at h1
  · rw [hrep] at hj; cases hj
  · have e : (fun j => (Array.replicate ops.size false).getD j false) = fun _ => false := funext hrep
    rw [e]; exact hI
  · rw [hrep] at hi; cases hi
theorem opw_yields {i : Nat} {o : Oper} {a : Act} {w w' : World} {L : Nat → Bool} (v : Value) (h : (execOp a.eval o).run P w = .ok (.value v) w') (hv : V i (match o.dst with | some _ => v | none => undef)) (hi : I (upd L i) w') :
    o.wp P a w (PostW I V L i o a) Q := by
  unfold Oper.wp
  rw [h]
  exact ⟨v, rfl, hv, hi⟩
theorem opw_stores {i : Nat} {o : Oper} {a : Act} {w w' : World} {L : Nat → Bool} (hd : o.dst = none) (h : (execOp a.eval o).run P w = .ok .skip w') (hv : V i undef) (hi : I (upd L i) w') :
    o.wp P a w (PostW I V L i o a) Q := by
  unfold Oper.wp
  rw [h]
  refine ⟨undef, ?_, ?_, hi⟩
  · rw [hd]; try rfl
  · rw [hd]; exact hv
end
end Go.Proofs.YtlmakdclebbbkaaGreat

namespace Go.Proofs.YtlmakdclebbbkaaGreat
open Go Go.RowKit
set_option linter.unusedVariables false
def updV (vs : Nat → Value) (i : Nat) (v : Value) (j : Nat) : Value := if j = i then v else vs j
theorem updV_self (vs : Nat → Value) (i : Nat) (v : Value) : updV vs i v i = v := by unfold updV; rw [if_pos rfl]
theorem updV_other (vs : Nat → Value) {i j : Nat} (v : Value) (h : j ≠ i) : updV vs i v j = vs j := by unfold updV; rw [if_neg h]
theorem upd_self (L : Nat → Bool) (i : Nat) : upd L i i = true := by unfold upd; rw [if_pos rfl]
theorem upd_other (L : Nat → Bool) {i j : Nat} (h : j ≠ i) : upd L i j = L j := by unfold upd; rw [if_neg h]
def PostI (ops : Array Oper) (I : (Nat → Bool) → (Nat → Value) → World → Prop) (L : Nat → Bool) (i : Nat) (o : Oper) (a : Act) (a' : Act) (w' : World) : Prop := ∃ v, a' = a.put o.dst v ∧ I (upd L i) (updV (slotV ops a) i (match o.dst with | some _ => v | none => undef)) w'
def OkI (P : Program) (ops : Array Oper) (Q : Exit → Act → World → Prop) (I : (Nat → Bool) → (Nat → Value) → World → Prop) (a0 : Act) (i : Nat) (o : Oper) : Prop :=
  ∀ a w L, FrameAt ops a0 a i → I L (slotV ops a) w → Since ops L i →
    (Region.wanted o (yielded ops a.tmps) = true → o.wp P a w (PostI ops I L i o a) Q) ∧ (Region.wanted o (yielded ops a.tmps) = false → I (upd L i) (updV (slotV ops a) i undef) w)
def AllI (P : Program) (ops : Array Oper) (Q : Exit → Act → World → Prop) (I : (Nat → Bool) → (Nat → Value) → World → Prop) (a0 : Act) : Nat → List Oper → Prop
  | _, [] => True
  | i, o :: l => OkI P ops Q I a0 i o ∧ AllI P ops Q I a0 (i + 1) l
section
variable {P : Program} {ops : Array Oper} {Q : Exit → Act → World → Prop} {I : (Nat → Bool) → (Nat → Value) → World → Prop} {a0 : Act}
theorem allI_at : ∀ {l : List Oper} {k : Nat}, AllI P ops Q I a0 k l → ∀ (i : Nat) (o : Oper), l[i]? = some o → OkI P ops Q I a0 (k + i) o
  | [], _, _, i, o, h => by simp at h
  | p :: l, k, ⟨h1, h2⟩, 0, o, h => by simp at h; subst h; exact h1
  | p :: l, k, ⟨h1, h2⟩, i + 1, o, h => by
    have := allI_at h2 i o (by simpa using h)
    rwa [show k + (i + 1) = k + 1 + i by omega]
structure InvI (P : Program) (ops : Array Oper) (I : (Nat → Bool) → (Nat → Value) → World → Prop) (a0 : Act) (listed : Array Bool) (a : Act) (w : World) : Prop where
  fr : FrameOk ops a0 a
  early : ∀ k, (∀ j, slotOf ops j = some k → listed.getD j false = false) → a.tmps.getD k undef = a0.tmps.getD k undef
  closed : ∀ (j : Nat) (o : Oper), ops[j]? = some o → listed.getD j false = true → ∀ e ∈ o.after.toList, Region.binds .any e = true → listed.getD e.on false = true
  inv : I (fun j => listed.getD j false) (slotV ops a) w
theorem wpAny_inv_tail (n : Nat) (hback : backW 0 ops.toList = true) (hb : apartB a0.tmps.size ops.toList = true) (hs : Region.sinkB .any ops n = true) (hc : Region.chainB .any ops n = true) (hn : n < ops.size)
    (hseq : Region.seqB .any ops (ops.size - n) n (headN n ops.size) = true) (hall : AllI P ops Q I a0 0 (ops.toList.take n))
    (hend : ∀ a w, FrameOk ops a0 a → (∀ k, (∀ j, j < n → slotOf ops j ≠ some k) → a.tmps.getD k undef = a0.tmps.getD k undef) → I (fun j => decide (j < n)) (slotV ops a) w → wpList P ops Q (ops.toList.drop n) a w) :
    ∀ (fuel : Nat) (listed : Array Bool) (a : Act) (w : World), HeadInv .any ops n listed → leftH n listed + (ops.size - n) ≤ fuel → InvI P ops I a0 listed a w → wpAny P .any ops Q fuel listed a w := by
  intro fuel
  induction fuel with
  | zero => intro listed a w inv hl hI; omega
  | succ fuel ih =>
    intro listed a w inv hl hI
    by_cases h0 : ∃ i, i < n ∧ listed.getD i true = false
    · obtain ⟨i0, hi0, hu0⟩ := h0
      have hready : ∀ i ∈ Region.ready .any ops listed, i < n := fun i hi => by
        rcases Nat.lt_or_ge i n with h | h
        · exact h
        · exact absurd hi (tail_waits hs hc hn inv (n - i0) i0 rfl hi0 hu0 i h)
      have hne : Region.ready .any ops listed ≠ [] := fun hr => by
        have key : ∀ m, m ≤ n → ∀ i, i < m → listed.getD i true = true := by
          intro m
          induction m with
          | zero => intro _ i hi; omega
          | succ m ihm =>
            intro hm i hi
            by_cases him : i < m
            · exact ihm (by omega) i him
            · have hie : i = m := by omega
              subst hie
              cases hli : listed.getD i true with
              | true => rfl
              | false =>
                exfalso
                have hio : i < ops.size := by omega
                have : i ∈ Region.ready .any ops listed := mem_ready.2 ⟨hli, ops[i], Array.getElem?_eq_getElem hio, fun e he hbb => by
                  have hb3 := backW_at hback i ops[i] (by simp [hio]) e (by simpa using he) hbb
                  have h3 := ihm (by omega) e.on (by omega)
                  have hlt : e.on < listed.size := by rw [inv.size]; omega
                  simp [hlt] at h3 ⊢
                  exact h3⟩
                rw [hr] at this; cases this
        rw [key n (Nat.le_refl _) i0 hi0] at hu0
        cases hu0
      refine ⟨fun h => absurd h hne, fun i hi => ?_⟩
      have hin := hready i hi
      obtain ⟨h1, o, ho, hdone⟩ := mem_ready.1 hi
      have hlt : i < ops.size := (Array.getElem?_eq_some_iff.1 ho).1
      have hok : OkI P ops Q I a0 i o := by
        have := allI_at hall i o (by rw [List.getElem?_take, if_pos hin]; simpa using ho)
        rwa [Nat.zero_add] at this
      have hdst : o.dst = slotOf ops i := by unfold slotOf; rw [ho]; rfl
      have hlt2 : i < listed.size := by rw [inv.size]; exact hlt
      have hfa : FrameAt ops a0 a i := ⟨hI.fr, fun k hk => hI.early k fun j hj => by
        have hj2 := hj
        unfold slotOf at hj2
        cases hoj : ops[j]? with
        | none => rw [hoj] at hj2; cases hj2
        | some oj =>
          rw [hoj] at hj2
          obtain ⟨e, he, heq, hbb⟩ := hk j oj hoj hj2
          cases hlj : listed.getD j false with
          | false => rfl
          | true =>
            have h5 := hI.closed j oj hoj hlj e he hbb
            rw [heq] at h5
            simp [hlt2] at h1 h5
            rw [h5] at h1; cases h1⟩
      have hself : listed.getD i false = false := by simp [hlt2] at h1 ⊢; exact h1
      have hsi : Since ops (fun j => listed.getD j false) i := ⟨hself, fun j hj => by
        have : ops.size ≤ j := by simpa using hj
        simp [show listed.size ≤ j by rw [inv.size]; exact this], hI.closed, fun o' ho' e he hbb => by
        rw [ho] at ho'; injection ho' with ho'; subst ho'
        exact hdone e (by simpa using he) hbb⟩
      obtain ⟨hw, hno⟩ := hok a w _ hfa hI.inv hsi
      have go : ∀ v w', I (upd (fun j => listed.getD j false) i) (updV (slotV ops a) i (match slotOf ops i with | some _ => v | none => undef)) w' → wpAny P .any ops Q fuel (listed.setIfInBounds i true) (a.put (slotOf ops i) v) w' := fun v w' hv => by
        refine ih _ _ _ (inv.set hi hin) (by have := leftH_set hin h1; omega) ⟨hI.fr.put hb i v, fun k hk => ?_, fun j oj hoj hlj e he hbb => ?_, ?_⟩
        · have hne : slotOf ops i ≠ some k := fun h => by have := hk i h; simp [hlt2] at this
          have h6 := hI.early k fun j hj => by
            have h7 := hk j hj
            by_cases hij : i = j
            · subst hij; simp [hlt2] at h7
            · rwa [getD_set_ne false hij] at h7
          rw [← h6]
          cases hsl : slotOf ops i with
          | none => rfl
          | some d =>
            have hdk : d ≠ k := fun h => hne (by rw [hsl, h])
            simp [Act.put, Array.getElem?_setIfInBounds_ne hdk]
        · by_cases hij : i = j
          · subst hij
            rw [ho] at hoj; injection hoj with hoj; subst hoj
            have h8 := hdone e (by simpa using he) hbb
            by_cases hie : i = e.on
            · rw [← hie]; simp [hlt2]
            · rw [getD_set_ne false hie]; exact h8
          · rw [getD_set_ne false hij] at hlj
            have h8 := hI.closed j oj hoj hlj e he hbb
            by_cases hie : i = e.on
            · rw [← hie]; simp [hlt2]
            · rw [getD_set_ne false hie]; exact h8
        · have e1 : (fun j => (listed.setIfInBounds i true).getD j false) = upd (fun j => listed.getD j false) i := by
            funext j
            unfold upd
            by_cases hij : j = i
            · subst hij; rw [if_pos rfl]; simp [hlt2]
            · rw [if_neg hij, getD_set_ne false (fun h => hij h.symm)]
          have e2 : slotV ops (a.put (slotOf ops i) v) = updV (slotV ops a) i (match slotOf ops i with | some _ => v | none => undef) := by
            funext j
            unfold updV
            by_cases hij : j = i
            · subst hij
              rw [if_pos rfl]
              unfold slotV
              cases hsl : slotOf ops j with
              | none => rfl
              | some d =>
                have hd := slotOf_lt hb hsl
                rw [← hI.fr.size] at hd
                simp [Act.put, hd]
            · rw [if_neg hij, slotV_put_other hb (fun h => hij h.symm)]
          rw [e1, e2]; exact hv
      unfold wpOp
      rw [ho]
      simp only
      split
      · rename_i hwant
        refine .inl (Oper.wp_mono (fun a' w' h => ?_) (hw hwant))
        obtain ⟨v, rfl, hv⟩ := h
        rw [hdst] at hv ⊢
        exact go v w' hv
      · rename_i hwant
        rw [hdst]
        exact go undef w (by have := hno (by simpa using hwant); cases slotOf ops i <;> exact this)
    · have hall1 : ∀ i, i < n → listed.getD i true = true := fun i hi => by
        cases h : listed.getD i true with
        | true => rfl
        | false => exact absurd ⟨i, hi, h⟩ h0
      have hcan := headN_eq (Nat.le_of_lt hn) inv.size hall1 (fun i h1 h2 => inv.tail i h1 h2)
      have hfalse : ∀ i, i < n → listed.getD i false = true := fun i hi => by
        have h := hall1 i hi
        have hlt : i < listed.size := by rw [inv.size]; omega
        simp [hlt] at h ⊢
        exact h
      have hL := hend a w hI.fr (fun k hk => hI.early k fun j hj => by
        rcases Nat.lt_or_ge j n with h | h
        · exact absurd hj (hk j h)
        · rcases Nat.lt_or_ge j ops.size with h2 | h2
          · exact getD_both (inv.tail j h h2)
          · simp [show listed.size ≤ j by rw [inv.size]; exact h2]) (by
        have e : (fun j => listed.getD j false) = fun j => decide (j < n) := by
          funext j
          by_cases hj : j < n
          · rw [hfalse j hj, decide_eq_true hj]
          · rw [decide_eq_false hj]
            rcases Nat.lt_or_ge j ops.size with h2 | h2
            · exact getD_both (inv.tail j (by omega) h2)
            · simp [show listed.size ≤ j by rw [inv.size]; exact h2]
        have h := hI.inv
        rwa [e] at h)
      have hdl : (ops.toList.drop n).length = ops.size - n := by simp
      have := wpAny_of_seq (md := .any) (Q' := Q) (ops.toList.drop n) n listed a w (fun j => by simp [List.getElem?_drop]) (by rw [hdl, hcan]; exact hseq) hL
      rw [hdl] at this
      exact wpAny_le this (by omega)
theorem wp_region_inv_tail {id : Nat} {w : World} (n : Nat) (hm : P.follows .mixedOrders = true) (hb : apartB a0.tmps.size ops.toList = true) (hback : backW 0 ops.toList = true)
    (hs : Region.sinkB .any ops n = true) (hc : Region.chainB .any ops n = true) (hn : n < ops.size) (hseq : Region.seqB .any ops (ops.size - n) n (headN n ops.size) = true)
    (hI : ∀ vs, I (fun _ => false) vs { w with drawn := w.drawn + 1 }) (hall : AllI P ops Q I a0 0 (ops.toList.take n))
    (hend : ∀ vs w', I (fun j => decide (j < n)) vs w' → wpList P ops Q (ops.toList.drop n) (putAll vs 0 (ops.toList.take n) a0) w') : (Code.region id ops true).wp P Q a0 w := by
  have hrep : ∀ j, (Array.replicate ops.size false).getD j false = false := fun j => by by_cases h : j < ops.size <;> simp [h]
  refine wp_region_any hm (wpAny_inv_tail n hback hb hs hc hn hseq hall (fun a w' hfr hea hf => ?_) ops.size _ a0 _ ⟨by simp, fun j oj _ hj => ?_, fun t _ h2 => getD_in (by simpa using h2) (hrep t)⟩ (by
    have h1 : leftH n (Array.replicate ops.size false) ≤ n := by unfold leftH; exact Nat.le_trans (List.length_filter_le _ _) (by simp)
    omega) ⟨⟨rfl, rfl, fun _ _ => rfl⟩, fun _ _ => rfl, fun j o _ hj => ?_, ?_⟩)
  · have htl : (ops.toList.take n).length = n := by simp; omega
    have hget : ∀ i o, (ops.toList.take n)[i]? = some o → ops[i]? = some o ∧ i < n := fun i o h => by
      rw [List.getElem?_take] at h
      split at h
      · rename_i h2; exact ⟨by simpa using h, h2⟩
      · cases h
    have h1 := hend (slotV ops a) w' hf
    have h2 : putAll (slotV ops a) 0 (ops.toList.take n) a0 = a := by
      rw [putAll_congr (ops.toList.take n) 0 a0 a hfr.defers.symm hfr.size.symm fun t hno => (hea t fun j hj hsl => ?_).symm]
      · refine putAll_same _ 0 fun i o ho => ?_
        obtain ⟨ho2, hin⟩ := hget i o ho
        rw [Nat.zero_add]
        have hdst : o.dst = slotOf ops i := by unfold slotOf; rw [ho2]; rfl
        rw [hdst]
        unfold slotV
        cases hsl : slotOf ops i with
        | none => rfl
        | some d =>
          refine act_ext rfl (by simp [Act.put]) fun k => ?_
          by_cases he : d = k
          · subst he
            have hd := slotOf_lt hb hsl
            rw [← hfr.size] at hd
            simp [Act.put, hd]
          · simp [Act.put, Array.getElem?_setIfInBounds_ne he]
      · unfold slotOf at hsl
        cases ho : ops[j]? with
        | none => rw [ho] at hsl; cases hsl
        | some o =>
          rw [ho] at hsl
          have hmem : o ∈ ops.toList.take n := List.mem_of_getElem? (i := j) (by rw [List.getElem?_take, if_pos hj]; simpa using ho)
          exact hno o hmem hsl
    rwa [h2] at h1
  · rw [hrep] at hj; cases hj
  · rw [hrep] at hj; cases hj
  · have e : (fun j => (Array.replicate ops.size false).getD j false) = fun _ => false := funext hrep
    rw [e]; exact hI _
theorem opi_yields {i : Nat} {o : Oper} {a : Act} {w w' : World} {L : Nat → Bool} (v : Value) (h : (execOp a.eval o).run P w = .ok (.value v) w') (hi : I (upd L i) (updV (slotV ops a) i (match o.dst with | some _ => v | none => undef)) w') :
    o.wp P a w (PostI ops I L i o a) Q := by
  unfold Oper.wp
  rw [h]
  exact ⟨v, rfl, hi⟩
theorem opi_calls {i : Nat} {o : Oper} {a : Act} {w : World} {L : Nat → Bool} {f : FuncId} {args : Array Value} (h : (execOp a.eval o).run P w = .ok (.enter f args) w)
    (hc : Calls P f args w fun e w' => ∃ v, e = .returned v ∧ I (upd L i) (updV (slotV ops a) i (match o.dst with | some _ => v | none => undef)) w') :
    o.wp P a w (PostI ops I L i o a) Q := by
  unfold Oper.wp
  rw [h]
  refine hc.mono ?_
  rintro e w' ⟨v, rfl, hv⟩
  exact ⟨v, rfl, hv⟩
theorem opi_calls2 {i : Nat} {o : Oper} {a : Act} {w : World} {L : Nat → Bool} {f : FuncId} {args : Array Value}
    (hc : Calls P f args w fun e w' => ∃ v, e = .returned v ∧ I (upd L i) (updV (slotV ops a) i (match o.dst with | some _ => v | none => undef)) w') (h : (execOp a.eval o).run P w = .ok (.enter f args) w) :
    o.wp P a w (PostI ops I L i o a) Q := opi_calls h hc
end
end Go.Proofs.YtlmakdclebbbkaaGreat
