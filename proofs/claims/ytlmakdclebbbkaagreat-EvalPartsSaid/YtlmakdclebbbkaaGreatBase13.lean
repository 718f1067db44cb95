/- Texts, merged in one. -/
import Derived.Orders
import Derived.Below
import Derived.OwnWalk
namespace Go.Proofs.YtlmakdclebbbkaaGreat
open Go Go.RowKit
set_option linter.unusedVariables false
def Hold (R : World → World → Prop) (P : World → Prop) (w : World) : Prop := ∀ w', R w w' → P w'
theorem Hold.now {P : World → Prop} {w : World} (h : Hold (fun a b => Below a.heap.size a b) P w) : P w := h w (Below.refl _ _)
def slotOf (ops : Array Oper) (j : Nat) : Option Tmp := (ops[j]?).bind (·.dst)
def slotV (ops : Array Oper) (a : Act) (j : Nat) : Value := match slotOf ops j with | some d => a.tmps.getD d undef | none => undef
structure FrameOk (ops : Array Oper) (a0 a : Act) : Prop where
  defers : a.defers = a0.defers
  size : a.tmps.size = a0.tmps.size
  same : ∀ k, (∀ j, slotOf ops j ≠ some k) → a.tmps.getD k undef = a0.tmps.getD k undef
structure FrameAt (ops : Array Oper) (a0 a : Act) (i : Nat) : Prop where
  fr : FrameOk ops a0 a
  early : ∀ k, (∀ (j : Nat) (o : Oper), ops[j]? = some o → o.dst = some k → ∃ e ∈ o.after.toList, e.on = i ∧ Region.binds .any e = true) → a.tmps.getD k undef = a0.tmps.getD k undef
def Deps (R : World → World → Prop) (V : Nat → Value → World → Prop) (ops : Array Oper) (a : Act) (w : World) : List Edge → Prop
  | [] => True
  | e :: l => (Region.binds .any e = true → Hold R (V e.on (slotV ops a e.on)) w) ∧ Deps R V ops a w l
def OpPost (R : World → World → Prop) (V : Nat → Value → World → Prop) (i : Nat) (o : Oper) (a : Act) (w : World) (a' : Act) (w' : World) : Prop := R w w' ∧ ∃ v, a' = a.put o.dst v ∧ Hold R (V i (match o.dst with | some _ => v | none => undef)) w'
def OpOk (P : Program) (ops : Array Oper) (Q : Exit → Act → World → Prop) (R : World → World → Prop) (G : World → Prop) (V : Nat → Value → World → Prop) (a0 : Act) (i : Nat) (o : Oper) : Prop :=
  ∀ a w, FrameAt ops a0 a i → Hold R G w → Deps R V ops a w o.after.toList →
    (Region.wanted o (yielded ops a.tmps) = true → o.wp P a w (OpPost R V i o a w) Q) ∧
    (Region.wanted o (yielded ops a.tmps) = false → Hold R (V i undef) w)
def AllOps (P : Program) (ops : Array Oper) (Q : Exit → Act → World → Prop) (R : World → World → Prop) (G : World → Prop) (V : Nat → Value → World → Prop) (a0 : Act) : Nat → List Oper → Prop
  | _, [] => True
  | i, o :: l => OpOk P ops Q R G V a0 i o ∧ AllOps P ops Q R G V a0 (i + 1) l
def putAll (vs : Nat → Value) : Nat → List Oper → Act → Act
  | _, [], a => a
  | i, o :: l, a => putAll vs (i + 1) l (a.put o.dst (vs i))
def apartB (n : Nat) : List Oper → Bool
  | [] => true
  | o :: l => (match o.dst with | some d => decide (d < n) && l.all (fun p => p.dst != some d) | none => true) && apartB n l

section
variable {P : Program} {ops : Array Oper} {Q : Exit → Act → World → Prop} {R : World → World → Prop} {G : World → Prop} {V : Nat → Value → World → Prop} {a0 : Act}
theorem allOps_at : ∀ {l : List Oper} {k : Nat}, AllOps P ops Q R G V a0 k l → ∀ (i : Nat) (o : Oper), l[i]? = some o → OpOk P ops Q R G V a0 (k + i) o
  | [], _, _, i, o, h => by simp at h
  | p :: l, k, ⟨h1, h2⟩, 0, o, h => by simp at h; subst h; exact h1
  | p :: l, k, ⟨h1, h2⟩, i + 1, o, h => by
    have := allOps_at h2 i o (by simpa using h)
    rwa [show k + (i + 1) = k + 1 + i by omega]
theorem apartB_lt {n : Nat} : ∀ {l : List Oper}, apartB n l = true → ∀ (i : Nat) (o : Oper) (d : Tmp), l[i]? = some o → o.dst = some d → d < n
  | [], _, i, o, d, h, _ => by simp at h
  | p :: l, hb, 0, o, d, h, hd => by
    simp at h; subst h
    simp only [apartB, hd, Bool.and_eq_true, decide_eq_true_eq] at hb
    exact hb.1.1
  | p :: l, hb, i + 1, o, d, h, hd => by
    simp only [apartB, Bool.and_eq_true] at hb
    exact apartB_lt hb.2 i o d (by simpa using h) hd
theorem apartB_ne {n : Nat} : ∀ {l : List Oper}, apartB n l = true → ∀ (i j : Nat) (o p : Oper) (d : Tmp), l[i]? = some o → l[j]? = some p → o.dst = some d → p.dst = some d → i = j
  | [], _, i, _, o, _, _, h, _, _, _ => by simp at h
  | q :: l, hb, 0, 0, o, p, d, h, h2, hd, hd2 => rfl
  | q :: l, hb, 0, j + 1, o, p, d, h, h2, hd, hd2 => by
    simp at h; subst h
    simp only [apartB, hd, Bool.and_eq_true, decide_eq_true_eq, List.all_eq_true] at hb
    have := hb.1.2 p (List.mem_of_getElem? (by simpa using h2 : l[j]? = some p))
    simp [hd2] at this
  | q :: l, hb, i + 1, 0, o, p, d, h, h2, hd, hd2 => by
    simp at h2; subst h2
    simp only [apartB, hd2, Bool.and_eq_true, decide_eq_true_eq, List.all_eq_true] at hb
    have := hb.1.2 o (List.mem_of_getElem? (by simpa using h : l[i]? = some o))
    simp [hd] at this
  | q :: l, hb, i + 1, j + 1, o, p, d, h, h2, hd, hd2 => by
    simp only [apartB, Bool.and_eq_true] at hb
    have := apartB_ne hb.2 i j o p d (by simpa using h) (by simpa using h2) hd hd2
    omega
theorem slotOf_ne (hb : apartB a0.tmps.size ops.toList = true) {i j : Nat} {d : Tmp} (hi : slotOf ops i = some d) (hj : slotOf ops j = some d) : i = j := by
  unfold slotOf at hi hj
  cases ho : ops[i]? with
  | none => rw [ho] at hi; cases hi
  | some o =>
    cases hp : ops[j]? with
    | none => rw [hp] at hj; cases hj
    | some p =>
      rw [ho] at hi; rw [hp] at hj
      exact apartB_ne hb i j o p d (by simpa using ho) (by simpa using hp) hi hj
theorem slotOf_lt (hb : apartB a0.tmps.size ops.toList = true) {i : Nat} {d : Tmp} (hi : slotOf ops i = some d) : d < a0.tmps.size := by
  unfold slotOf at hi
  cases ho : ops[i]? with
  | none => rw [ho] at hi; cases hi
  | some o => rw [ho] at hi; exact apartB_lt hb i o d (by simpa using ho) hi
theorem slotV_put_other (hb : apartB a0.tmps.size ops.toList = true) {a : Act} {i j : Nat} (hij : i ≠ j) (v : Value) : slotV ops (a.put (slotOf ops i) v) j = slotV ops a j := by
  unfold slotV
  cases hj : slotOf ops j with
  | none => rfl
  | some d =>
    cases hi : slotOf ops i with
    | none => rfl
    | some e =>
      have hne : e ≠ d := fun h => hij (slotOf_ne hb hi (h ▸ hj))
      simp [Act.put, Array.getElem?_setIfInBounds_ne hne]
theorem FrameOk.put (hb : apartB a0.tmps.size ops.toList = true) {a : Act} (h : FrameOk ops a0 a) (i : Nat) (v : Value) : FrameOk ops a0 (a.put (slotOf ops i) v) := by
  cases hi : slotOf ops i with
  | none => exact h
  | some e =>
    refine ⟨h.defers, by simpa [Act.put] using h.size, fun k hk => ?_⟩
    have hne : e ≠ k := fun he => hk i (he ▸ hi)
    rw [← h.same k hk]
    simp [Act.put, Array.getElem?_setIfInBounds_ne hne]
structure RInv (P : Program) (ops : Array Oper) (R : World → World → Prop) (G : World → Prop) (V : Nat → Value → World → Prop) (a0 : Act) (listed : Array Bool) (a : Act) (w : World) : Prop where
  fr : FrameOk ops a0 a
  early : ∀ k, (∀ j, slotOf ops j = some k → listed.getD j false = false) → a.tmps.getD k undef = a0.tmps.getD k undef
  closed : ∀ (j : Nat) (o : Oper), ops[j]? = some o → listed.getD j false = true → ∀ e ∈ o.after.toList, Region.binds .any e = true → listed.getD e.on false = true
  g : Hold R G w
  facts : ∀ i, listed.getD i false = true → Hold R (V i (slotV ops a i)) w
theorem Hold.trans {A : World → Prop} (ht : ∀ a b c, R a b → R b c → R a c) {w w' : World} (h : Hold R A w) (hr : R w w') : Hold R A w' := fun w2 h2 => h w2 (ht _ _ _ hr h2)
theorem deps_of {a : Act} {w : World} {listed : Array Bool} (hf : ∀ i, listed.getD i false = true → Hold R (V i (slotV ops a i)) w) :
    ∀ l : List Edge, (∀ e ∈ l, Region.binds .any e = true → listed.getD e.on false = true) → Deps R V ops a w l
  | [], _ => trivial
  | e :: l, h => ⟨fun hb => hf _ (h e List.mem_cons_self hb), deps_of hf l fun e' he' => h e' (List.mem_cons_of_mem _ he')⟩
def backB : Nat → List Oper → Bool
  | _, [] => true
  | i, o :: l => o.after.all (fun e => decide (e.on < i)) && backB (i + 1) l
theorem backB_at : ∀ {l : List Oper} {k : Nat}, backB k l = true → ∀ (i : Nat) (o : Oper), l[i]? = some o → ∀ e ∈ o.after, e.on < k + i
  | [], _, _, i, o, h, _, _ => by simp at h
  | p :: l, k, hb, 0, o, h, e, he => by
    simp at h; subst h
    simp only [backB, Bool.and_eq_true] at hb
    have h1 := hb.1
    rw [Array.all_eq_true_iff_forall_mem] at h1
    simpa using h1 e he
  | p :: l, k, hb, i + 1, o, h, e, he => by
    simp only [backB, Bool.and_eq_true] at hb
    have := backB_at hb.2 i o (by simpa using h) e he
    omega
def left (n : Nat) (listed : Array Bool) : Nat := ((List.range n).filter fun i => !listed.getD i true).length
theorem filter_less {l : List Nat} {p q : Nat → Bool} (h : ∀ x ∈ l, q x = true → p x = true) {i : Nat} (hi : i ∈ l) (h1 : p i = true) (h2 : q i = false) : (l.filter q).length < (l.filter p).length := by
  induction l with
  | nil => cases hi
  | cons x l ih =>
    have hx := h x List.mem_cons_self
    have hl : ∀ y ∈ l, q y = true → p y = true := fun y hy => h y (List.mem_cons_of_mem _ hy)
    have hle : (l.filter q).length ≤ (l.filter p).length := by
      clear ih hi h hx
      induction l with
      | nil => simp
      | cons y l ih =>
        have := ih (fun z hz => hl z (List.mem_cons_of_mem _ hz))
        have hy := hl y List.mem_cons_self
        cases hq : q y <;> cases hp : p y <;> simp [hq, hp] <;> first | omega | (rw [hy hq] at hp; cases hp)
    rcases List.mem_cons.1 hi with rfl | hi
    · simp only [List.filter_cons, h1, h2, if_true, List.length_cons]; simp; omega
    · have := ih hl hi
      cases hq : q x <;> cases hp : p x <;> simp [hq, hp] <;> first | omega | (rw [hx hq] at hp; cases hp)
theorem left_set {n : Nat} {listed : Array Bool} {i : Nat} (hn : listed.size = n) (hi : listed.getD i true = false) : left n (listed.setIfInBounds i true) < left n listed := by
  have hlt : i < listed.size := by
    rcases Nat.lt_or_ge i listed.size with h | h
    · exact h
    · simp [Array.getElem?_eq_none h] at hi
  refine filter_less (fun x hx hq => ?_) (List.mem_range.2 (by omega : i < n)) (by simp [hi]) (by simp [hlt])
  by_cases h : i = x
  · subst h; simp [hlt] at hq
  · rw [getD_set_ne true h] at hq; exact hq
theorem left_none {n : Nat} {listed : Array Bool} (hn : listed.size = n) (h : left n listed = 0) : ∀ i, i < n → listed.getD i true = true := fun i hi => by
  unfold left at h
  have := List.eq_nil_of_length_eq_zero h
  rw [List.filter_eq_nil_iff] at this
  simpa using this i (List.mem_range.2 hi)
theorem all_listed (hback : backB 0 ops.toList = true) {listed : Array Bool} (hs : listed.size = ops.size) (hr : Region.ready .any ops listed = []) : ∀ i, i < ops.size → listed.getD i true = true := by
  intro i
  induction i using Nat.strongRecOn with
  | _ i ih =>
    intro hi
    cases hc : listed.getD i true with
    | true => rfl
    | false =>
      have : i ∈ Region.ready .any ops listed := by
        rw [mem_ready]
        refine ⟨hc, ops[i], Array.getElem?_eq_getElem hi, fun e he hb => ?_⟩
        have h1 := backB_at hback i ops[i] (by simp [hi]) e he
        have h2 := ih e.on (by omega) (by omega)
        have hlt : e.on < listed.size := by omega
        simp [hlt] at h2 ⊢
        exact h2
      rw [hr] at this
      cases this
theorem wpAny_facts (hr0 : ∀ w, R w w) (ht : ∀ a b c, R a b → R b c → R a c) (hb : apartB a0.tmps.size ops.toList = true) (hback : backB 0 ops.toList = true) (hall : AllOps P ops Q R G V a0 0 ops.toList)
    (hend : ∀ a w, FrameOk ops a0 a → Hold R G w → (∀ i, i < ops.size → Hold R (V i (slotV ops a i)) w) → Q .normal a w) :
    ∀ (fuel : Nat) (listed : Array Bool) (a : Act) (w : World), listed.size = ops.size → left ops.size listed ≤ fuel → RInv P ops R G V a0 listed a w → wpAny P .any ops Q fuel listed a w := by
  have fin : ∀ (listed : Array Bool) (a : Act) (w : World), listed.size = ops.size → RInv P ops R G V a0 listed a w → Region.ready .any ops listed = [] → Q .normal a w := fun listed a w hs hI hr =>
    hend a w hI.fr hI.g fun i hi => hI.facts i (by
      have h1 := all_listed hback hs hr i hi
      have hlt : i < listed.size := by omega
      simp [hlt] at h1 ⊢
      exact h1)
  intro fuel
  induction fuel with
  | zero =>
    intro listed a w hs hl hI
    have hr : Region.ready .any ops listed = [] := by
      rw [List.eq_nil_iff_forall_not_mem]
      intro i hi
      obtain ⟨h1, o, ho, _⟩ := mem_ready.1 hi
      have hlt : i < ops.size := (Array.getElem?_eq_some_iff.1 ho).1
      rw [left_none hs (by omega) i hlt] at h1
      cases h1
    exact ⟨hr, fin listed a w hs hI hr⟩
  | succ fuel ih =>
    intro listed a w hs hl hI
    refine ⟨fin listed a w hs hI, fun i hi => ?_⟩
    obtain ⟨h1, o, ho, hdone⟩ := mem_ready.1 hi
    have hlt : i < ops.size := (Array.getElem?_eq_some_iff.1 ho).1
    have hok : OpOk P ops Q R G V a0 i o := by have := allOps_at hall i o (by simpa using ho); rwa [Nat.zero_add] at this
    have hdst : o.dst = slotOf ops i := by unfold slotOf; rw [ho]; rfl
    have hfa : FrameAt ops a0 a i := ⟨hI.fr, fun k hk => hI.early k fun j hj => by
      have hj2 := hj
      unfold slotOf at hj2
      cases hoj : ops[j]? with
      | none => rw [hoj] at hj2; cases hj2
      | some oj =>
        rw [hoj] at hj2
        obtain ⟨e, he, heq, hbb⟩ := hk j oj hoj hj2
        cases hlj : listed.getD j false with
        | false => rfl
        | true =>
          have h5 := hI.closed j oj hoj hlj e he hbb
          rw [heq] at h5
          have hlt2 : i < listed.size := by omega
          simp [hlt2] at h1 h5
          rw [h5] at h1; cases h1⟩
    obtain ⟨hw, hn⟩ := hok a w hfa hI.g (deps_of hI.facts _ fun e he hbb => hdone e (by simpa using he) hbb)
    have go : ∀ v w', R w w' → Hold R (V i (match slotOf ops i with | some _ => v | none => undef)) w' → wpAny P .any ops Q fuel (listed.setIfInBounds i true) (a.put (slotOf ops i) v) w' := fun v w' hrw hv => by
      refine ih _ _ _ (by simpa using hs) (by have := left_set hs h1; omega) ⟨hI.fr.put hb i v, fun k hk => ?_, fun j oj hoj hlj e he hbb => ?_, hI.g.trans ht hrw, fun j hj => ?_⟩
      · have hlt2 : i < listed.size := by omega
        have hne : slotOf ops i ≠ some k := fun h => by have := hk i h; simp [hlt2] at this
        have h6 := hI.early k fun j hj => by
          have h7 := hk j hj
          by_cases hij : i = j
          · subst hij; simp [hlt2] at h7
          · rwa [getD_set_ne false hij] at h7
        rw [← h6]
        cases hsl : slotOf ops i with
        | none => rfl
        | some d =>
          have hdk : d ≠ k := fun h => hne (by rw [hsl, h])
          simp [Act.put, Array.getElem?_setIfInBounds_ne hdk]
      · have hlt2 : i < listed.size := by omega
        by_cases hij : i = j
        · subst hij
          rw [ho] at hoj; injection hoj with hoj; subst hoj
          have h8 := hdone e (by simpa using he) hbb
          by_cases hie : i = e.on
          · rw [← hie]; simp [hlt2]
          · rw [getD_set_ne false hie]; exact h8
        · rw [getD_set_ne false hij] at hlj
          have h8 := hI.closed j oj hoj hlj e he hbb
          by_cases hie : i = e.on
          · rw [← hie]; simp [hlt2]
          · rw [getD_set_ne false hie]; exact h8
      by_cases hij : i = j
      · subst hij
        have e : slotV ops (a.put (slotOf ops i) v) i = match slotOf ops i with | some _ => v | none => undef := by
          unfold slotV
          cases hsl : slotOf ops i with
          | none => rfl
          | some d =>
            have hd := slotOf_lt hb hsl
            rw [← hI.fr.size] at hd
            simp [Act.put, hd]
        rw [e]
        exact hv
      · rw [slotV_put_other hb hij]
        refine (hI.facts j ?_).trans ht hrw
        rw [getD_set_ne false hij] at hj
        exact hj
    unfold wpOp
    rw [ho]
    simp only
    split
    · rename_i hwant
      refine .inl (Oper.wp_mono (fun a' w' h => ?_) (hw hwant))
      obtain ⟨hrw, v, rfl, hv⟩ := h
      rw [hdst] at hv ⊢
      exact go v w' hrw hv
    · rename_i hwant
      rw [hdst]
      exact go undef w (hr0 w) (by have := hn (by simpa using hwant); cases slotOf ops i <;> exact this)
def AllV (R : World → World → Prop) (V : Nat → Value → World → Prop) (vs : Nat → Value) (w : World) : Nat → List Oper → Prop
  | _, [] => True
  | i, _ :: l => Hold R (V i (vs i)) w ∧ AllV R V vs w (i + 1) l
theorem allV_of {vs : Nat → Value} {w : World} : ∀ (l : List Oper) (k : Nat), (∀ i, i < l.length → Hold R (V (k + i) (vs (k + i))) w) → AllV R V vs w k l
  | [], _, _ => trivial
  | o :: l, k, h => ⟨h 0 (by simp), allV_of l (k + 1) fun i hi => by have := h (i + 1) (by simpa using hi); rwa [show k + (i + 1) = k + 1 + i by omega] at this⟩
theorem putAll_same {vs : Nat → Value} {a : Act} : ∀ (l : List Oper) (k : Nat), (∀ i o, l[i]? = some o → a.put o.dst (vs (k + i)) = a) → putAll vs k l a = a
  | [], _, _ => rfl
  | o :: l, k, h => by
    have h0 := h 0 o (by simp)
    unfold putAll
    rw [show a.put o.dst (vs k) = a from h0]
    exact putAll_same l (k + 1) fun i p hp => by have := h (i + 1) p (by simpa using hp); rwa [show k + (i + 1) = k + 1 + i by omega] at this
theorem act_ext {a b : Act} (h1 : a.defers = b.defers) (h2 : a.tmps.size = b.tmps.size) (h3 : ∀ k, a.tmps.getD k undef = b.tmps.getD k undef) : a = b := by
  obtain ⟨x, y⟩ := a; obtain ⟨x', y'⟩ := b
  simp only at h1 h2 h3
  subst h1
  have : x = x' := Array.ext h2 fun i hi hi' => by have := h3 i; simpa [hi, hi'] using this
  rw [this]
theorem putAll_congr {vs : Nat → Value} : ∀ (l : List Oper) (k : Nat) (a b : Act), a.defers = b.defers → a.tmps.size = b.tmps.size → (∀ t, (∀ o ∈ l, o.dst ≠ some t) → a.tmps.getD t undef = b.tmps.getD t undef) → putAll vs k l a = putAll vs k l b
  | [], _, a, b, h1, h2, h3 => act_ext h1 h2 fun k => h3 k (fun o ho => absurd ho List.not_mem_nil)
  | o :: l, k, a, b, h1, h2, h3 => by
    unfold putAll
    cases hd : o.dst with
    | none =>
      refine putAll_congr l (k + 1) _ _ h1 h2 fun t ht => h3 t fun p hp => ?_
      rcases List.mem_cons.1 hp with rfl | hp
      · rw [hd]; simp
      · exact ht p hp
    | some d =>
      refine putAll_congr l (k + 1) _ _ h1 (by simpa [Act.put] using h2) fun t ht => ?_
      by_cases he : d = t
      · subst he
        by_cases hlt : d < a.tmps.size
        · have hlt' : d < b.tmps.size := h2 ▸ hlt
          simp [Act.put, hlt, hlt']
        · have hlt' : ¬ d < b.tmps.size := h2 ▸ hlt
          simp [Act.put, hlt, hlt']
      · have := h3 t fun p hp => by
          rcases List.mem_cons.1 hp with rfl | hp
          · rw [hd]; simpa using he
          · exact ht p hp
        simpa [Act.put, Array.getElem?_setIfInBounds_ne he] using this
theorem wp_region_facts {id : Nat} {w : World} (hm : P.follows .mixedOrders = true) (hr0 : ∀ w, R w w) (ht : ∀ a b c, R a b → R b c → R a c) (hb : apartB a0.tmps.size ops.toList = true) (hback : backB 0 ops.toList = true)
    (hG : Hold R G { w with drawn := w.drawn + 1 }) (hall : AllOps P ops Q R G V a0 0 ops.toList)
    (hend : ∀ vs w', Hold R G w' → AllV R V vs w' 0 ops.toList → Q .normal (putAll vs 0 ops.toList a0) w') : (Code.region id ops true).wp P Q a0 w := by
  refine wp_region_any hm (wpAny_facts hr0 ht hb hback hall (fun a w' hfr hg hf => ?_) ops.size _ a0 _ (by simp) (by unfold left; exact Nat.le_trans (List.length_filter_le _ _) (by simp)) ⟨⟨rfl, rfl, fun _ _ => rfl⟩, fun _ _ => rfl, fun j o _ hj => ?_, hG, fun i hi => ?_⟩)
  · have h1 := hend (slotV ops a) w' hg (allV_of _ 0 fun i hi => by rw [Nat.zero_add]; exact hf i (by simpa using hi))
    have h2 : putAll (slotV ops a) 0 ops.toList a0 = a := by
      rw [putAll_congr ops.toList 0 a0 a hfr.defers.symm hfr.size.symm fun t hno => (hfr.same t fun j hj => ?_).symm]
      · refine putAll_same _ 0 fun i o ho => ?_
        rw [Nat.zero_add]
        have hdst : o.dst = slotOf ops i := by unfold slotOf; rw [show ops[i]? = some o by simpa using ho]; rfl
        rw [hdst]
        unfold slotV
        cases hsl : slotOf ops i with
        | none => rfl
        | some d =>
          refine act_ext rfl (by simp [Act.put]) fun k => ?_
          by_cases he : d = k
          · subst he
            have hd := slotOf_lt hb hsl
            rw [← hfr.size] at hd
            simp [Act.put, hd]
          · simp [Act.put, Array.getElem?_setIfInBounds_ne he]
      · unfold slotOf at hj
        cases ho : ops[j]? with
        | none => rw [ho] at hj; cases hj
        | some o => rw [ho] at hj; exact hno o (by simpa using Array.mem_of_getElem? ho) hj
    rwa [h2] at h1
  · exfalso
    have : (Array.replicate ops.size false).getD j false = false := by
      by_cases h : j < ops.size <;> simp [h]
    rw [this] at hj
    cases hj
  · exfalso
    have : (Array.replicate ops.size false).getD i false = false := by
      by_cases h : i < ops.size <;> simp [h]
    rw [this] at hi
    cases hi
end
section
variable {P : Program} {ops : Array Oper} {Q : Exit → Act → World → Prop} {R : World → World → Prop} {G : World → Prop} {V : Nat → Value → World → Prop} {a0 : Act}
theorem FrameAt.at {a : Act} {i : Nat} (h : FrameAt ops a0 a i) (k : Nat) (hk : ops.toList.all (fun o => o.dst != some k || o.after.toList.any (fun e => e.on == i && Region.binds .any e)) = true) : a.tmps.getD k undef = a0.tmps.getD k undef :=
  h.early k fun j o ho hd => by
    have h1 := List.all_eq_true.1 hk o (by simpa using Array.mem_of_getElem? ho)
    rw [hd] at h1
    have hz : ((some k : Option Tmp) != some k) = false := by simp
    rw [hz, Bool.false_or] at h1
    obtain ⟨e, he, h3⟩ := List.any_eq_true.1 h1
    rw [Bool.and_eq_true] at h3
    exact ⟨e, he, by simpa using h3.1, h3.2⟩
theorem FrameOk.at {a : Act} (h : FrameOk ops a0 a) (k : Nat) (hk : ops.toList.all (fun o => o.dst != some k) = true) : a.tmps.getD k undef = a0.tmps.getD k undef :=
  h.same k fun j hj => by
    unfold slotOf at hj
    cases ho : ops[j]? with
    | none => rw [ho] at hj; cases hj
    | some o =>
      rw [ho] at hj
      have := List.all_eq_true.1 hk o (by simpa using Array.mem_of_getElem? ho)
      simp [show o.dst = some k from hj] at this
theorem op_yields {i : Nat} {o : Oper} {a : Act} {w : World} (v : Value) (h : (execOp a.eval o).run P w = .ok (.value v) w) (hr : R w w) (hv : Hold R (V i (match o.dst with | some _ => v | none => undef)) w) :
    o.wp P a w (OpPost R V i o a w) Q := by
  unfold Oper.wp
  rw [h]
  exact ⟨hr, v, rfl, hv⟩
theorem op_makes {i : Nat} {o : Oper} {a : Act} {w w' : World} (v : Value) (h : (execOp a.eval o).run P w = .ok (.value v) w') (hr : R w w') (hv : Hold R (V i (match o.dst with | some _ => v | none => undef)) w') :
    o.wp P a w (OpPost R V i o a w) Q := by
  unfold Oper.wp
  rw [h]
  exact ⟨hr, v, rfl, hv⟩
theorem op_calls {i : Nat} {o : Oper} {a : Act} {w : World} {f : FuncId} {args : Array Value} (h : (execOp a.eval o).run P w = .ok (.enter f args) w)
    (hc : Calls P f args w fun e w' => ∃ v, e = .returned v ∧ R w w' ∧ Hold R (V i (match o.dst with | some _ => v | none => undef)) w') :
    o.wp P a w (OpPost R V i o a w) Q := by
  unfold Oper.wp
  rw [h]
  refine Calls.mono hc fun e w' hh => ?_
  obtain ⟨v, rfl, h1, h2⟩ := hh
  exact ⟨h1, v, rfl, h2⟩
theorem op_calls2 {i : Nat} {o : Oper} {a : Act} {w : World} {f : FuncId} {args : Array Value}
    (hc : Calls P f args w fun e w' => ∃ v, e = .returned v ∧ R w w' ∧ Hold R (V i (match o.dst with | some _ => v | none => undef)) w') (h : (execOp a.eval o).run P w = .ok (.enter f args) w) :
    o.wp P a w (OpPost R V i o a w) Q := op_calls h hc
theorem op_append {o : Oper} {a : Act} {w w' : World} {s x : Operand} {t : TypeId} {v u v' : Value} (ho : o.op = .call { callee := .builtin .append, args := #[s, x], argTypes := #[t, t] }) (hv : a.eval s = v) (hx : a.eval x = u)
    (hr : (Builtin.append_ #[t, t] o.type #[v, u]).run P w = .ok v' w') : (execOp a.eval o).run P w = .ok (.value v') w' := by
  simp only [execOp, ho, resolve, invoke, builtin, Sem.run_bind, Sem.run_pure, Result.andThen_ok, List.map_toArray, List.map_cons, List.map_nil, hv, hx, hr]
theorem yielded_of {a : Act} {j t : Nat} {b : Bool} (hj : slotOf ops j = some t) (h : a.tmps.getD t undef = .bool b) : yielded ops a.tmps j = some b := by
  unfold yielded slotOf at *
  rw [hj]
  simp only [Option.bind_some]
  cases hc : a.tmps[t]? with
  | none => simp [hc, undef] at h
  | some u => simp [hc] at h; rw [h]
theorem wanted_of {o : Oper} {a : Act} {j : Nat} {b want : Bool} (hg : o.guard = some (j, want)) (h : yielded ops a.tmps j = some b) : Region.wanted o (yielded ops a.tmps) = (b == want) := by
  unfold Region.wanted
  rw [hg]; simp only [h]
  cases b <;> cases want <;> rfl
theorem yielded_undef {a : Act} {j t : Nat} (hj : slotOf ops j = some t) (h : a.tmps.getD t undef = undef) : yielded ops a.tmps j = none := by
  unfold yielded slotOf at *
  rw [hj]
  simp only [Option.bind_some]
  cases hc : a.tmps[t]? with
  | none => rfl
  | some u => simp [hc] at h; rw [h]; rfl
theorem wanted_none {o : Oper} {a : Act} {j : Nat} {want : Bool} (hg : o.guard = some (j, want)) (h : yielded ops a.tmps j = none) : Region.wanted o (yielded ops a.tmps) = false := by
  unfold Region.wanted
  rw [hg]; simp only [h]
  rfl
end
end Go.Proofs.YtlmakdclebbbkaaGreat
