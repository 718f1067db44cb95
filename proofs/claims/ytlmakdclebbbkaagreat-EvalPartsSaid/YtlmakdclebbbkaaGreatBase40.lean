/- Texts, merged in one. -/
import Derived.Test.YtlmakdclebbbkaaGreatBase27
import Derived.Test.YtlmakdclebbbkaaGreatBase24
import Derived.Test.YtlmakdclebbbkaaGreatBase23
import Derived.Test.YtlmakdclebbbkaaGreatBase32
import Derived.Test.YtlmakdclebbbkaaGreatBase30
import Derived.Test.YtlmakdclebbbkaaGreatBase36
import Derived.Test.YtlmakdclebbbkaaGreatBase38
import Derived.Test.YtlmakdclebbbkaaGreatBase39
namespace Go.Proofs.YtlmakdclebbbkaaGreat
open Go.ChangeShapes Go.WideShapes Go.ChangeAt Go.RowKit
set_option linter.unusedVariables false
set_option linter.unusedSimpArgs false
set_option maxRecDepth 100000
structure EV where
  num : Bool
  n : Int
  ps : List Pt
def EV.zero : EV := ⟨false, 0, []⟩
def numV : Nat → PE → Int × Int
  | 0, _ => (0, 0)
  | d + 1, .mk k n _ _ ks => if k = 1 then (n, 0) else match ks with
    | [a, b] => if (numV d a).2 ≠ 0 then (0, (numV d a).2) else if (numV d b).2 ≠ 0 then (0, (numV d b).2) else reckonF k (numV d a).1 (numV d b).1
    | _ => (0, 0)
def twoE (k : Int) (u v : EV) : List Pt × Int :=
  if k ≤ 7 then (if u.num = true then scaleR k u.n true v.ps else if v.num = true then scaleR k v.n false u.ps else mathR k u.ps v.ps)
  else if 14 ≤ k then logicR k u.ps v.ps
  else if v.num = true then (sortP (aboveF k v.n u.ps), 0) else filterR k u.ps v.ps
def comF (D : List SK) (t : Int) : Nat → PE → EV × Int
  | 0, _ => (EV.zero, 0)
  | d + 1, .mk k n ms ns ks => if (PE.mk k n ms ns ks).ty = 1 then (if (numV (d + 1) (.mk k n ms ns ks)).2 ≠ 0 then (EV.zero, (numV (d + 1) (.mk k n ms ns ks)).2) else (⟨true, (numV (d + 1) (.mk k n ms ns ks)).1, []⟩, 0))
    else if k = 2 then (⟨false, 0, pickS D t n ms⟩, 0)
    else match ks with
    | [a] => if (comF D t d a).2 ≠ 0 then (EV.zero, (comF D t d a).2) else (⟨false, 0, (groupR k ns (comF D t d a).1.ps).1⟩, (groupR k ns (comF D t d a).1.ps).2)
    | [a, b] => if (comF D t d a).2 ≠ 0 then (EV.zero, (comF D t d a).2) else if (comF D t d b).2 ≠ 0 then (EV.zero, (comF D t d b).2)
      else (⟨false, 0, (twoE k (comF D t d a).1 (comF D t d b).1).1⟩, (twoE k (comF D t d a).1 (comF D t d b).1).2)
    | _ => (EV.zero, 0)
structure GoodP (ps : List Pt) : Prop where
  few : ∀ p ∈ ps, p.1.length ≤ 6
  size : ∀ p ∈ ps, ∀ x ∈ p.1, x.1.size ≤ 1000
  vals : ∀ p ∈ ps, I64 p.2
theorem GoodP.sub {ps qs : List Pt} (h : GoodP ps) (hs : ∀ p ∈ qs, p ∈ ps) : GoodP qs := ⟨fun p hp => h.few p (hs p hp), fun p hp => h.size p (hs p hp), fun p hp => h.vals p (hs p hp)⟩
theorem GoodP.nil : GoodP [] := ⟨fun p hp => absurd hp List.not_mem_nil, fun p hp => absurd hp List.not_mem_nil, fun p hp => absurd hp List.not_mem_nil⟩
theorem GoodP.app {ps qs : List Pt} (h : GoodP ps) (h2 : GoodP qs) : GoodP (ps ++ qs) := ⟨fun p hp => (List.mem_append.1 hp).elim (h.few p) (h2.few p), fun p hp => (List.mem_append.1 hp).elim (h.size p) (h2.size p), fun p hp => (List.mem_append.1 hp).elim (h.vals p) (h2.vals p)⟩
theorem GoodP.sort {ps : List Pt} (h : GoodP ps) : GoodP (sortP ps) := h.sub fun p hp => sortP_mem.1 hp
theorem I64_zero : I64 0 := by unfold I64; omega
theorem reckon_in {k a b : Int} (wa : I64 a) (wb : I64 b) : I64 (reckonF k a b).1 := by
  unfold reckonF
  split
  · exact I64_nV _
  split
  · exact I64_nV _
  split
  · exact I64_nV _
  split
  · unfold divF
    split
    · exact I64_zero
    split
    · exact I64_zero
    · rename_i h1 h2; exact tdiv_in wa h2
  split
  · unfold modF
    split
    · exact I64_zero
    · rename_i h1
      have h2 : (a.tmod b).natAbs ≤ a.natAbs := by rw [Int.natAbs_tmod]; exact Nat.mod_le _ _
      have h4 := Int.tmod_nonneg (a := a) b
      have h5 : a ≤ 0 → a.tmod b ≤ 0 := fun h => by
        have h6 := Int.tmod_nonneg (a := -a) b (by omega)
        rw [Int.neg_tmod] at h6; omega
      unfold I64 at *
      rcases Int.le_total a 0 with h | h
      · have := h5 h; omega
      · have := h4 h; omega
  · exact I64_zero
theorem good_res {ps : List Pt} {f : Pt → Option (List Lbl × (Int × Int))} (h : ∀ p ∈ ps, ∀ r, f p = some r → r.1.length ≤ 6 ∧ (∀ x ∈ r.1, x.1.size ≤ 1000) ∧ I64 r.2.1) : GoodP (resF f ps).1 ∧ (resF f ps).1.length ≤ ps.length := by
  unfold resF
  split
  · have ho : GoodP (outF f ps) := by
      have key : ∀ p ∈ outF f ps, p.1.length ≤ 6 ∧ (∀ x ∈ p.1, x.1.size ≤ 1000) ∧ I64 p.2 := fun p hp => by
        unfold outF at hp
        obtain ⟨q, hq, e⟩ := List.mem_filterMap.1 hp
        cases e2 : f q with
        | none => rw [e2] at e; cases e
        | some r => rw [e2] at e; simp only [Option.map_some, Option.some.injEq] at e; subst e; exact h q hq r e2
      exact ⟨fun p hp => (key p hp).1, fun p hp => (key p hp).2.1, fun p hp => (key p hp).2.2⟩
    exact ⟨ho.sort, by rw [sortP_len]; exact List.length_filterMap_le _ _⟩
  · exact ⟨GoodP.nil, Nat.zero_le _⟩
theorem bare_good {l : List Lbl} (h : l.length ≤ 6) (h2 : ∀ x ∈ l, x.1.size ≤ 1000) : (bareL l).length ≤ 6 ∧ ∀ x ∈ bareL l, x.1.size ≤ 1000 := ⟨Nat.le_trans (bare_len l) h, fun x hx => h2 x (List.mem_filter.1 hx).1⟩
theorem good_scale {k n : Int} {b : Bool} {ps : List Pt} (h : GoodP ps) (wn : I64 n) : GoodP (scaleR k n b ps).1 ∧ (scaleR k n b ps).1.length ≤ ps.length := by
  unfold scaleR
  split
  · exact ⟨GoodP.nil, Nat.zero_le _⟩
  · refine good_res fun p hp r hr => ?_
    unfold scaleF at hr
    injection hr with hr; subst hr
    obtain ⟨h1, h2⟩ := bare_good (h.few p hp) (h.size p hp)
    refine ⟨h1, h2, ?_⟩
    show I64 (if b = true then reckonF k n p.2 else reckonF k p.2 n).1
    split
    · exact reckon_in wn (h.vals p hp)
    · exact reckon_in (h.vals p hp) wn
theorem valP_in {qs : List Pt} (h : GoodP qs) (i : Int) : I64 (valP qs i) := by
  unfold valP
  cases e : qs[i.toNat]? with
  | none => exact I64_zero
  | some p => exact h.vals p (List.mem_of_getElem? e)
theorem good_math {k : Int} {ps qs : List Pt} (h : GoodP ps) (h2 : GoodP qs) : GoodP (mathR k ps qs).1 ∧ (mathR k ps qs).1.length ≤ ps.length := by
  unfold mathR
  split
  · exact ⟨GoodP.nil, Nat.zero_le _⟩
  · refine good_res fun p hp r hr => ?_
    unfold mathF at hr
    cases e : findP qs p with
    | none => rw [e] at hr; cases hr
    | some i =>
      rw [e] at hr; simp only [Option.map_some, Option.some.injEq] at hr; subst hr
      obtain ⟨h3, h4⟩ := bare_good (h.few p hp) (h.size p hp)
      exact ⟨h3, h4, reckon_in (h.vals p hp) (valP_in h2 i)⟩
theorem good_filter {k : Int} {ps qs : List Pt} (h : GoodP ps) : GoodP (filterR k ps qs).1 ∧ (filterR k ps qs).1.length ≤ ps.length := by
  unfold filterR
  split
  · exact ⟨GoodP.nil, Nat.zero_le _⟩
  · refine good_res fun p hp r hr => ?_
    unfold filterF at hr
    cases e : findP qs p with
    | none => rw [e] at hr; cases hr
    | some i =>
      rw [e] at hr
      simp only at hr
      split at hr
      · injection hr with hr; subst hr; exact ⟨h.few p hp, h.size p hp, h.vals p hp⟩
      · cases hr
theorem good_logic {k : Int} {ps qs : List Pt} (h : GoodP ps) (h2 : GoodP qs) : GoodP (logicR k ps qs).1 ∧ (logicR k ps qs).1.length ≤ ps.length + qs.length := by
  unfold logicR
  split
  · exact ⟨GoodP.nil, Nat.zero_le _⟩
  · split
    · have key : GoodP (logicF k ps qs) ∧ (logicF k ps qs).length ≤ ps.length + qs.length := by
        unfold logicF
        split
        · exact ⟨h.sub fun p hp => among_mem hp, by have := among_len (keysP qs) true ps; omega⟩
        · split
          · exact ⟨h.sub fun p hp => among_mem hp, by have := among_len (keysP qs) false ps; omega⟩
          · exact ⟨h.app (h2.sub fun p hp => among_mem hp), by rw [List.length_append]; have := among_len (keysP ps) false qs; omega⟩
      exact ⟨key.1.sort, by rw [sortP_len]; exact key.2⟩
    · exact ⟨GoodP.nil, Nat.zero_le _⟩
theorem good_above {k n : Int} {ps : List Pt} (h : GoodP ps) : GoodP (sortP (aboveF k n ps)) ∧ (sortP (aboveF k n ps)).length ≤ ps.length :=
  ⟨(h.sub fun p hp => (List.mem_filter.1 hp).1).sort, by rw [sortP_len]; exact List.length_filter_le _ _⟩
theorem groupF_good {k : Int} {ns : List ByteArray} (ps : List Pt) (h : GoodP ps) (hl : ps.length ≤ 1000) : GoodP (groupF k ns ps).1 ∧ (groupF k ns ps).1.length ≤ ps.length ∧ (k = 20 → ∀ p ∈ (groupF k ns ps).1, p.2 ≤ ps.length) := by
  induction ps using list_snoc_ind with
  | h0 => exact ⟨GoodP.nil, Nat.le_refl _, fun _ p hp => absurd hp List.not_mem_nil⟩
  | h1 l x ih =>
    rw [List.length_append, List.length_singleton] at hl
    obtain ⟨h1, h2, h3⟩ := ih (h.sub fun p hp => List.mem_append_left _ hp) (by omega)
    have hx := List.mem_append_right l (List.mem_singleton.2 (rfl : x = x))
    have hv := h.vals x hx
    rw [groupF_snoc, List.length_append, List.length_singleton]
    obtain ⟨⟨gs, er⟩, hg⟩ : ∃ q, groupF k ns l = q := ⟨_, rfl⟩
    rw [hg] at h1 h2 h3 ⊢
    simp only at h1 h2 h3
    by_cases he : er = 0
    · subst he
      cases e : idxG (txtG gs) (printL (keepL ns x.1)) with
      | none =>
        rw [stepG_none e]
        refine ⟨h1.app ⟨fun p hp => ?_, fun p hp => ?_, fun p hp => ?_⟩, by rw [List.length_append]; simp; omega, fun e20 p hp => ?_⟩
        · rw [List.mem_singleton] at hp; subst hp; exact Nat.le_trans (List.length_filter_le _ _) (h.few x hx)
        · rw [List.mem_singleton] at hp; subst hp; exact fun y hy => h.size x hx y (List.mem_filter.1 hy).1
        · rw [List.mem_singleton] at hp; subst hp; exact begun_in hv
        · rcases List.mem_append.1 hp with hp | hp
          · have := h3 e20 p hp; push_cast; omega
          · rw [List.mem_singleton] at hp; subst hp; unfold begunF; rw [if_pos e20]; push_cast; omega
      | some i =>
        have hi := (idxG_some e).1
        have hi2 : i < gs.length := by simpa [txtG] using hi
        rw [stepG_some e (List.getElem?_eq_getElem hi2)]
        have hm := List.getElem_mem hi2
        split
        · refine ⟨⟨fun p hp => ?_, fun p hp => ?_, fun p hp => ?_⟩, by rw [List.length_set]; omega, fun e20 p hp => ?_⟩
          · rcases List.mem_or_eq_of_mem_set hp with hp | rfl
            · exact h1.few p hp
            · exact (show gs[i].1.length ≤ 6 from h1.few _ hm)
          · rcases List.mem_or_eq_of_mem_set hp with hp | rfl
            · exact h1.size p hp
            · exact (show ∀ x ∈ gs[i].1, x.1.size ≤ 1000 from h1.size _ hm)
          · rcases List.mem_or_eq_of_mem_set hp with hp | rfl
            · exact h1.vals p hp
            · exact gather_in (h1.vals _ hm) hv (fun e20 => by have := h3 e20 _ hm; omega)
          · rcases List.mem_or_eq_of_mem_set hp with hp | rfl
            · have := h3 e20 p hp; push_cast; omega
            · have := h3 e20 _ hm; subst e20; show gs[i].2 + 1 ≤ _; push_cast; omega
        · exact ⟨GoodP.nil, Nat.zero_le _, fun _ p hp => absurd hp List.not_mem_nil⟩
    · rw [show stepG k ns (gs, er) x = (gs, er) by unfold stepG; rw [if_pos he]]
      exact ⟨h1, by simp only; omega, fun e20 p hp => by have := h3 e20 p hp; push_cast; omega⟩
theorem good_group {k : Int} {ns : List ByteArray} {ps : List Pt} (h : GoodP ps) (hl : ps.length ≤ 1000) : GoodP (groupR k ns ps).1 ∧ (groupR k ns ps).1.length ≤ ps.length := by
  obtain ⟨h1, h2, _⟩ := groupF_good (k := k) (ns := ns) ps h hl
  unfold groupR
  split
  · exact ⟨h1.sort, by rw [sortP_len]; exact h2⟩
  · exact ⟨GoodP.nil, Nat.zero_le _⟩
def VOk (D : List SK) : Prop := ∀ x ∈ D, ∀ y ∈ x.2, I64 y.2
theorem atF_in {ss : List (Int × Int)} (h : ∀ y ∈ ss, I64 y.2) (t look : Int) : I64 (atF ss t look).1 := by
  unfold atF
  split
  · exact I64_zero
  · rename_i j _
    split
    · exact I64_zero
    · show I64 (ss.getD j (0, 0)).2
      rw [List.getD_eq_getElem?_getD]
      cases e : ss[j]? with
      | none => exact I64_zero
      | some y => exact h y (List.mem_of_getElem? e)
theorem pick_len (D : List SK) (t look : Int) (ms : List Mtc) : (pickS D t look ms).length ≤ D.length := by
  unfold pickS
  induction D with
  | nil => simp
  | cons x D ih =>
    rw [List.flatMap_cons, List.length_append, List.length_cons]
    have : (pickOne t look ms x).length ≤ 1 := by
      unfold pickOne; split
      · split <;> simp
      · simp
    omega
theorem good_pick {D : List SK} (hD : DOk D) (hv : VOk D) (t look : Int) (ms : List Mtc) : GoodP (pickS D t look ms) := by
  have key : ∀ p ∈ pickS D t look ms, ∃ x ∈ D, p = (x.1, (atF x.2 t look).1) := fun p hp => by
    unfold pickS at hp
    obtain ⟨x, hx, hp⟩ := List.mem_flatMap.1 hp
    unfold pickOne at hp
    split at hp
    · split at hp
      · rw [List.mem_singleton] at hp; exact ⟨x, hx, hp⟩
      · cases hp
    · cases hp
  refine ⟨fun p hp => ?_, fun p hp y hy => ?_, fun p hp => ?_⟩ <;> obtain ⟨x, hx, rfl⟩ := key p hp
  · exact rightS_len (hD.row x hx).1
  · have h1 := rightS_ok (hD.row x hx).1 y hy
    unfold lblOk wordF at h1
    simp only [Bool.and_eq_true, decide_eq_true_eq] at h1
    omega
  · exact atF_in (hv x hx) t look
def lim (D : List SK) : Nat → Nat
  | 0 => 0
  | d + 1 => D.length * 2 ^ d
theorem lim_two (D : List SK) (d : Nat) : lim D d + lim D d ≤ lim D (d + 1) := by
  cases d with
  | zero => simp [lim]
  | succ d => simp only [lim]; rw [Nat.pow_succ, ← Nat.mul_assoc]; omega
theorem lim_one (D : List SK) (d : Nat) : D.length ≤ lim D (d + 1) := by
  simp only [lim]; exact Nat.le_mul_of_pos_right _ (Nat.two_pow_pos d)
theorem numV_in : ∀ (d : Nat) (x : PE), x.fits → I64 (numV d x).1
  | 0, _, _ => I64_zero
  | d + 1, .mk k n ms ns ks, h => by
    unfold PE.fits at h
    unfold numV
    split
    · exact h.1
    · match ks, h.2 with
      | [], _ => exact I64_zero
      | [a], _ => exact I64_zero
      | [a, b], hk =>
        simp only [fitsP] at hk
        simp only
        split
        · exact I64_zero
        · split
          · exact I64_zero
          · exact reckon_in (numV_in d a hk.1) (numV_in d b hk.2.1)
      | a :: b :: c :: l, _ => exact I64_zero
theorem good_two {k : Int} {u v : EV} (hu : GoodP u.ps) (hv : GoodP v.ps) (wu : I64 u.n) (wv : I64 v.n) : GoodP (twoE k u v).1 ∧ (twoE k u v).1.length ≤ u.ps.length + v.ps.length := by
  unfold twoE
  split
  · split
    · exact ⟨(good_scale hv wu).1, by have := (good_scale (k := k) (b := true) hv wu).2; omega⟩
    · split
      · exact ⟨(good_scale hu wv).1, by have := (good_scale (k := k) (b := false) hu wv).2; omega⟩
      · exact ⟨(good_math hu hv).1, by have := (good_math (k := k) hu hv).2; omega⟩
  · split
    · exact good_logic hu hv
    · split
      · exact ⟨(good_above hu).1, by have := (good_above (k := k) (n := v.n) hu).2; simp only; omega⟩
      · exact ⟨(good_filter hu).1, by have := (good_filter (k := k) (qs := v.ps) hu).2; omega⟩
theorem ev_zero (L : Nat) : GoodP EV.zero.ps ∧ EV.zero.ps.length ≤ L ∧ I64 EV.zero.n := ⟨GoodP.nil, Nat.zero_le _, I64_zero⟩
theorem comF_good {D : List SK} (hD : DOk D) (hv : VOk D) (t : Int) : ∀ (d : Nat) (x : PE), x.fits → lim D d ≤ 1000 → GoodP (comF D t d x).1.ps ∧ (comF D t d x).1.ps.length ≤ lim D d ∧ I64 (comF D t d x).1.n
  | 0, _, _, _ => ev_zero _
  | d + 1, .mk k n ms ns ks, h, hl => by
    have h0 := h
    unfold PE.fits at h
    have h2 := lim_two D d
    unfold comF
    split
    · split
      · exact ev_zero _
      · exact ⟨GoodP.nil, Nat.zero_le _, numV_in _ _ h0⟩
    split
    · exact ⟨good_pick hD hv t n ms, Nat.le_trans (pick_len _ _ _ _) (lim_one D d), I64_zero⟩
    match ks, h.2 with
    | [], _ => exact ev_zero _
    | [a], hk =>
      simp only [fitsP] at hk
      obtain ⟨g1, g2, g3⟩ := comF_good hD hv t d a hk.1 (by omega)
      simp only
      split
      · exact ev_zero _
      · obtain ⟨g4, g5⟩ := good_group (k := k) (ns := ns) g1 (by omega)
        exact ⟨g4, by simp only; omega, I64_zero⟩
    | [a, b], hk =>
      simp only [fitsP] at hk
      obtain ⟨g1, g2, g3⟩ := comF_good hD hv t d a hk.1 (by omega)
      obtain ⟨q1, q2, q3⟩ := comF_good hD hv t d b hk.2.1 (by omega)
      simp only
      split
      · exact ev_zero _
      · split
        · exact ev_zero _
        · obtain ⟨g4, g5⟩ := good_two (k := k) g1 q1 g3 q3
          exact ⟨g4, by simp only; omega, I64_zero⟩
    | a :: b :: c :: l, _ => exact ev_zero _
theorem GoodP.fine {ps : List Pt} (h : GoodP ps) : Fine ps := ⟨fun p hp => by have := h.few p hp; omega, h.vals⟩
theorem comF_num {D : List SK} {t : Int} {d : Nat} {x : PE} (h : x.ty = 1) : comF D t (d + 1) x = if (numV (d + 1) x).2 ≠ 0 then (EV.zero, (numV (d + 1) x).2) else (⟨true, (numV (d + 1) x).1, []⟩, 0) := by
  obtain ⟨k, n, ms, ns, ks⟩ := x
  unfold comF; rw [if_pos h]
theorem comF_pick {D : List SK} {t : Int} {d : Nat} {n : Int} {ms : List Mtc} {ns : List ByteArray} {ks : List PE} : comF D t (d + 1) (.mk 2 n ms ns ks) = (⟨false, 0, pickS D t n ms⟩, 0) := by
  have h : (PE.mk 2 n ms ns ks).ty ≠ 1 := by unfold PE.ty; rw [if_neg (by decide), if_pos rfl]; split <;> decide
  unfold comF; rw [if_neg h, if_pos rfl]
theorem comF_one {D : List SK} {t : Int} {d : Nat} {k n : Int} {ms : List Mtc} {ns : List ByteArray} {a : PE} (h : (PE.mk k n ms ns [a]).ty ≠ 1) (hk : k ≠ 2) : comF D t (d + 1) (.mk k n ms ns [a]) = if (comF D t d a).2 ≠ 0 then (EV.zero, (comF D t d a).2) else (⟨false, 0, (groupR k ns (comF D t d a).1.ps).1⟩, (groupR k ns (comF D t d a).1.ps).2) := by
  rw [comF, if_neg h, if_neg hk]
theorem comF_two {D : List SK} {t : Int} {d : Nat} {k n : Int} {ms : List Mtc} {ns : List ByteArray} {a b : PE} (h : (PE.mk k n ms ns [a, b]).ty ≠ 1) (hk : k ≠ 2) : comF D t (d + 1) (.mk k n ms ns [a, b]) = if (comF D t d a).2 ≠ 0 then (EV.zero, (comF D t d a).2) else if (comF D t d b).2 ≠ 0 then (EV.zero, (comF D t d b).2)
      else (⟨false, 0, (twoE k (comF D t d a).1 (comF D t d b).1).1⟩, (twoE k (comF D t d a).1 (comF D t d b).1).2) := by
  rw [comF, if_neg h, if_neg hk]
def evalR (D : List SK) (t : Int) (d : Nat) (x : PE) : List Pt × Int := if x.right = true then ((comF D t d x).1.ps, (comF D t d x).2) else ([], 7)
end Go.Proofs.YtlmakdclebbbkaaGreat
