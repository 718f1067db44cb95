/- A region that draws its order, by one fact an operation: each fact stays along a relation of its own, each step keeps one of its own (one operation may write old memory). No program in it. -/
import Derived.Test.YtepgllmenljkcaaFacts
namespace Go.Proofs.Ytepgllmenljkcaa
open Go Go.RowKit
set_option linter.unusedVariables false
/-- The facts of the operations that are waited for. -/
def Deps2 (R : Nat → World → World → Prop) (V : Nat → Value → World → Prop) (ops : Array Oper) (a : Act) (w : World) : List Edge → Prop
  | [] => True
  | e :: l => (Region.binds .any e = true → Hold (R e.on) (V e.on (slotV ops a e.on)) w) ∧ Deps2 R V ops a w l
/-- What an operation leaves. -/
def OpPost2 (R S : Nat → World → World → Prop) (V : Nat → Value → World → Prop) (i : Nat) (o : Oper) (a : Act) (w : World) (a' : Act) (w' : World) : Prop := S i w w' ∧ ∃ v, a' = a.put o.dst v ∧ Hold (R i) (V i (match o.dst with | some _ => v | none => undef)) w'
def OpOk2 (P : Program) (ops : Array Oper) (Q : Exit → Act → World → Prop) (RG : World → World → Prop) (R S : Nat → World → World → Prop) (G : World → Prop) (V : Nat → Value → World → Prop) (a0 : Act) (i : Nat) (o : Oper) : Prop :=
  ∀ a w, FrameOk ops a0 a → Hold RG G w → Deps2 R V ops a w o.after.toList →
    (Region.wanted o (yielded ops a.tmps) = true → o.wp P a w (OpPost2 R S V i o a w) Q) ∧
    (Region.wanted o (yielded ops a.tmps) = false → Hold (R i) (V i undef) w)
def AllOps2 (P : Program) (ops : Array Oper) (Q : Exit → Act → World → Prop) (RG : World → World → Prop) (R S : Nat → World → World → Prop) (G : World → Prop) (V : Nat → Value → World → Prop) (a0 : Act) : Nat → List Oper → Prop
  | _, [] => True
  | i, o :: l => OpOk2 P ops Q RG R S G V a0 i o ∧ AllOps2 P ops Q RG R S G V a0 (i + 1) l
section
variable {P : Program} {ops : Array Oper} {Q : Exit → Act → World → Prop} {RG : World → World → Prop} {R S : Nat → World → World → Prop} {G : World → Prop} {V : Nat → Value → World → Prop} {a0 : Act}
theorem allOps2_at : ∀ {l : List Oper} {k : Nat}, AllOps2 P ops Q RG R S G V a0 k l → ∀ (i : Nat) (o : Oper), l[i]? = some o → OpOk2 P ops Q RG R S G V a0 (k + i) o
  | [], _, _, i, o, h => by simp at h
  | p :: l, k, ⟨h1, h2⟩, 0, o, h => by simp at h; subst h; exact h1
  | p :: l, k, ⟨h1, h2⟩, i + 1, o, h => by
    have := allOps2_at h2 i o (by simpa using h)
    rwa [show k + (i + 1) = k + 1 + i by omega]
/-- The state ahead of each operation. -/
structure RInv2 (P : Program) (ops : Array Oper) (RG : World → World → Prop) (R : Nat → World → World → Prop) (G : World → Prop) (V : Nat → Value → World → Prop) (a0 : Act) (listed : Array Bool) (a : Act) (w : World) : Prop where
  fr : FrameOk ops a0 a
  g : Hold RG G w
  facts : ∀ i, listed.getD i false = true → Hold (R i) (V i (slotV ops a i)) w
theorem deps2_of {a : Act} {w : World} {listed : Array Bool} (hf : ∀ i, listed.getD i false = true → Hold (R i) (V i (slotV ops a i)) w) :
    ∀ l : List Edge, (∀ e ∈ l, Region.binds .any e = true → listed.getD e.on false = true) → Deps2 R V ops a w l
  | [], _ => trivial
  | e :: l, h => ⟨fun hb => hf _ (h e List.mem_cons_self hb), deps2_of hf l fun e' he' => h e' (List.mem_cons_of_mem _ he')⟩
theorem wpAny_facts2 (hs0 : ∀ i w, S i w w) (htG : ∀ a b c, RG a b → RG b c → RG a c) (ht : ∀ i a b c, R i a b → R i b c → R i a c) (hSG : ∀ i a b, S i a b → RG a b) (hSR : ∀ i j a b, i ≠ j → S i a b → R j a b) (hb : apartB a0.tmps.size ops.toList = true) (hback : backB 0 ops.toList = true) (hall : AllOps2 P ops Q RG R S G V a0 0 ops.toList)
    (hend : ∀ a w, FrameOk ops a0 a → Hold RG G w → (∀ i, i < ops.size → Hold (R i) (V i (slotV ops a i)) w) → Q .normal a w) :
    ∀ (fuel : Nat) (listed : Array Bool) (a : Act) (w : World), listed.size = ops.size → left ops.size listed ≤ fuel → RInv2 P ops RG R G V a0 listed a w → wpAny P .any ops Q fuel listed a w := by
  have fin : ∀ (listed : Array Bool) (a : Act) (w : World), listed.size = ops.size → RInv2 P ops RG R G V a0 listed a w → Region.ready .any ops listed = [] → Q .normal a w := fun listed a w hs hI hr =>
    hend a w hI.fr hI.g fun i hi => hI.facts i (by
      have h1 := all_listed hback hs hr i hi
      have hlt : i < listed.size := by omega
      simp [hlt] at h1 ⊢
      exact h1)
  intro fuel
  induction fuel with
  | zero =>
    intro listed a w hs hl hI
    have hr : Region.ready .any ops listed = [] := by
      rw [List.eq_nil_iff_forall_not_mem]
      intro i hi
      obtain ⟨h1, o, ho, _⟩ := mem_ready.1 hi
      have hlt : i < ops.size := (Array.getElem?_eq_some_iff.1 ho).1
      rw [left_none hs (by omega) i hlt] at h1
      cases h1
    exact ⟨hr, fin listed a w hs hI hr⟩
  | succ fuel ih =>
    intro listed a w hs hl hI
    refine ⟨fin listed a w hs hI, fun i hi => ?_⟩
    obtain ⟨h1, o, ho, hdone⟩ := mem_ready.1 hi
    have hlt : i < ops.size := (Array.getElem?_eq_some_iff.1 ho).1
    have hok : OpOk2 P ops Q RG R S G V a0 i o := by have := allOps2_at hall i o (by simpa using ho); rwa [Nat.zero_add] at this
    have hdst : o.dst = slotOf ops i := by unfold slotOf; rw [ho]; rfl
    obtain ⟨hw, hn⟩ := hok a w hI.fr hI.g (deps2_of hI.facts _ fun e he hbb => hdone e (by simpa using he) hbb)
    have go : ∀ v w', S i w w' → Hold (R i) (V i (match slotOf ops i with | some _ => v | none => undef)) w' → wpAny P .any ops Q fuel (listed.setIfInBounds i true) (a.put (slotOf ops i) v) w' := fun v w' hrw hv => by
      refine ih _ _ _ (by simpa using hs) (by have := left_set hs h1; omega) ⟨hI.fr.put hb i v, hI.g.trans htG (hSG i _ _ hrw), fun j hj => ?_⟩
      by_cases hij : i = j
      · subst hij
        have e : slotV ops (a.put (slotOf ops i) v) i = match slotOf ops i with | some _ => v | none => undef := by
          unfold slotV
          cases hsl : slotOf ops i with
          | none => rfl
          | some d =>
            have hd := slotOf_lt hb hsl
            rw [← hI.fr.size] at hd
            simp [Act.put, hd]
        rw [e]
        exact hv
      · rw [slotV_put_other hb hij]
        refine (hI.facts j ?_).trans (ht j) (hSR i j _ _ hij hrw)
        rw [getD_set_ne false hij] at hj
        exact hj
    unfold wpOp
    rw [ho]
    simp only
    split
    · rename_i hwant
      refine .inl (Oper.wp_mono (fun a' w' h => ?_) (hw hwant))
      obtain ⟨hrw, v, rfl, hv⟩ := h
      rw [hdst] at hv ⊢
      exact go v w' hrw hv
    · rename_i hwant
      rw [hdst]
      exact go undef w (hs0 i w) (by have := hn (by simpa using hwant); cases slotOf ops i <;> exact this)
/-- The facts of all operations. -/
def AllV2 (R : Nat → World → World → Prop) (V : Nat → Value → World → Prop) (vs : Nat → Value) (w : World) : Nat → List Oper → Prop
  | _, [] => True
  | i, _ :: l => Hold (R i) (V i (vs i)) w ∧ AllV2 R V vs w (i + 1) l
theorem allV2_of {vs : Nat → Value} {w : World} : ∀ (l : List Oper) (k : Nat), (∀ i, i < l.length → Hold (R (k + i)) (V (k + i) (vs (k + i))) w) → AllV2 R V vs w k l
  | [], _, _ => trivial
  | o :: l, k, h => ⟨h 0 (by simp), allV2_of l (k + 1) fun i hi => by have := h (i + 1) (by simpa using hi); rwa [show k + (i + 1) = k + 1 + i by omega] at this⟩
/-- THE LAW: each operation has a fact that stays along R; a region that draws its order ends with all of them. -/
theorem wp_region_facts2 {id : Nat} {w : World} (hm : P.follows .mixedOrders = true) (hs0 : ∀ i w, S i w w) (htG : ∀ a b c, RG a b → RG b c → RG a c) (ht : ∀ i a b c, R i a b → R i b c → R i a c) (hSG : ∀ i a b, S i a b → RG a b) (hSR : ∀ i j a b, i ≠ j → S i a b → R j a b) (hb : apartB a0.tmps.size ops.toList = true) (hback : backB 0 ops.toList = true)
    (hG : Hold RG G { w with drawn := w.drawn + 1 }) (hall : AllOps2 P ops Q RG R S G V a0 0 ops.toList)
    (hend : ∀ vs w', Hold RG G w' → AllV2 R V vs w' 0 ops.toList → Q .normal (putAll vs 0 ops.toList a0) w') : (Code.region id ops true).wp P Q a0 w := by
  refine wp_region_any hm (wpAny_facts2 hs0 htG ht hSG hSR hb hback hall (fun a w' hfr hg hf => ?_) ops.size _ a0 _ (by simp) (by unfold left; exact Nat.le_trans (List.length_filter_le _ _) (by simp)) ⟨⟨rfl, rfl, fun _ _ => rfl⟩, hG, fun i hi => ?_⟩)
  · have h1 := hend (slotV ops a) w' hg (allV2_of _ 0 fun i hi => by rw [Nat.zero_add]; exact hf i (by simpa using hi))
    have h2 : putAll (slotV ops a) 0 ops.toList a0 = a := by
      rw [putAll_congr ops.toList 0 a0 a hfr.defers.symm hfr.size.symm fun t hno => (hfr.same t fun j hj => ?_).symm]
      · refine putAll_same _ 0 fun i o ho => ?_
        rw [Nat.zero_add]
        have hdst : o.dst = slotOf ops i := by unfold slotOf; rw [show ops[i]? = some o by simpa using ho]; rfl
        rw [hdst]
        unfold slotV
        cases hsl : slotOf ops i with
        | none => rfl
        | some d =>
          refine act_ext rfl (by simp [Act.put]) fun k => ?_
          by_cases he : d = k
          · subst he
            have hd := slotOf_lt hb hsl
            rw [← hfr.size] at hd
            simp [Act.put, hd]
          · simp [Act.put, Array.getElem?_setIfInBounds_ne he]
      · unfold slotOf at hj
        cases ho : ops[j]? with
        | none => rw [ho] at hj; cases hj
        | some o => rw [ho] at hj; exact hno o (by simpa using Array.mem_of_getElem? ho) hj
    rwa [h2] at h1
  · exfalso
    have : (Array.replicate ops.size false).getD i false = false := by
      by_cases h : i < ops.size <;> simp [h]
    rw [this] at hi
    cases hi
/-- An operation that reads, or makes memory, or writes. -/
theorem op2_does {i : Nat} {o : Oper} {a : Act} {w w' : World} (v : Value) (h : (execOp a.eval o).run P w = .ok (.value v) w') (hr : S i w w') (hv : Hold (R i) (V i (match o.dst with | some _ => v | none => undef)) w') :
    o.wp P a w (OpPost2 R S V i o a w) Q := by
  unfold Oper.wp
  rw [h]
  exact ⟨hr, v, rfl, hv⟩
theorem op2_calls {i : Nat} {o : Oper} {a : Act} {w : World} {f : FuncId} {args : Array Value}
    (hc : Calls P f args w fun e w' => ∃ v, e = .returned v ∧ S i w w' ∧ Hold (R i) (V i (match o.dst with | some _ => v | none => undef)) w') (h : (execOp a.eval o).run P w = .ok (.enter f args) w) :
    o.wp P a w (OpPost2 R S V i o a w) Q := by
  unfold Oper.wp
  rw [h]
  refine Calls.mono hc fun e w' hh => ?_
  obtain ⟨v, rfl, h1, h2⟩ := hh
  exact ⟨h1, v, rfl, h2⟩
end
end Go.Proofs.Ytepgllmenljkcaa
