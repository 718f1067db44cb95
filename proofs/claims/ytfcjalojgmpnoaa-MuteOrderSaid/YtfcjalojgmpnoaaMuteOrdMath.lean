/- Mathematics of MuteOrder. -/
import Derived.Test.YtfcjalojgmpnoaaMuteMoreMath
import Derived.Test.YtfcjalojgmpnoaaSMap
import Derived.Deep.RegionLaw
namespace Go.Proofs.Ytfcjalojgmpnoaa
open Go.ChangeShapes Go.WideShapes Go.ChangeAt Go.RowKit
set_option linter.unusedVariables false
set_option maxRecDepth 100000
theorem step_append_rw {P : Program} {w : World} {ops : Array Oper} {o : Oper} {a : Act} {K : Act → World → Prop} {Q : Exit → Act → World → Prop} {E : Prop} (hgd : o.guard = none) (s x : Operand) (t : TypeId)
    (ho : o.op = .call { callee := .builtin .append, args := #[s, x], argTypes := #[t, t] })
    (base : Nat) (e : TypeId) (i : TypeInfo) (z : Value) (size bytes : Nat) (ht : P.underlying t = some (.slice e)) (hi : P.info? e = some i) (hz : i.zero = some z)
    (hsize : i.size = size) (hby : i.bytes = bytes) (hzs : z.cells.size = size) (hsz : 0 < size)
    (v : Value) (n : Nat) (xs : List Value) (hv : a.eval s = v) (hown : w.ownsRow base e size v n xs)
    (B : Nat) (A : Option Addr) (m c : Nat) (news : List Value) (hx : a.eval x = .slice A m c) (hs : Sees w B size A m news) (h1 : ∀ u ∈ news, u.oneCell' = true)
    (h63 : n + m ≤ maxLen) (hbytes : (n + m) * bytes ≤ 140737488355328) (hbase : base ≤ w.heap.size)
    (h : ∀ A' c' w', w'.ownsRow base e size (.slice A' (n + m) c') (n + m) (xs ++ news) → w.grownBy w' v.ownBlock → K (a.put o.dst (.slice A' (n + m) c')) w') :
    if Region.wanted o (yielded ops a.tmps) = true then Oper.wp P o a w K Q else E := by
  have hw : Region.wanted o (yielded ops a.tmps) = true := by simp [Region.wanted, hgd]
  rw [if_pos hw]
  obtain ⟨v', w', hr, h2, h3⟩ := append_run (P := P) w base t o.type e i z size bytes ht hi hz hsize hby hzs hsz v n xs hown B A m c news hs h1 h63 hbytes hbase
  obtain ⟨A', c', rfl, _, _⟩ := own_slice h2
  unfold Oper.wp execOp
  simp only [ho, resolve, invoke, builtin, Sem.run_bind, Sem.run_pure, Result.andThen_ok, List.map_toArray, List.map_cons, List.map_nil, hv, hx, hr]
  exact h A' c' w' h2 h3
/-- Is a text one of these sets'. -/
def fmem (S : List (List Lbl)) : List UInt8 → Bool := fun x => S.any fun s => x == printL s
theorem fmem_nil : (fun _ => false) = fmem [] := rfl
theorem fmem_push (S : List (List Lbl)) (s : List Lbl) : (fun x => x == printL s || fmem S x) = fmem (S ++ [s]) := by
  funext x
  unfold fmem
  rw [List.any_append, List.any_cons, List.any_nil, Bool.or_false, Bool.or_comm]
def okSet (s : List Lbl) : Prop := rightS s = true ∧ s.length ≤ 3
theorem fmem_in {S : List (List Lbl)} {s : List Lbl} (hm : s ∈ S) : fmem S (printL s) = true := List.any_eq_true.2 ⟨s, hm, by simp⟩
theorem fmem_out {S : List (List Lbl)} {s : List Lbl} (hS : ∀ x ∈ S, okSet x) (hs : okSet s) (hm : s ∉ S) : fmem S (printL s) = false := by
  unfold fmem
  rw [List.any_eq_false]
  intro x hx h
  have he : printL s = printL x := by simpa using h
  exact hm (print_inj hs.1 (hS x hx).1 he ▸ hx)
theorem okSet_of (k : KSet) : okSet (setF k) := ⟨setF_right k, setF_len k⟩
/-- A text, as the program has it. -/
theorem text_key (l : List UInt8) : (⟨l.toArray⟩ : ByteArray).data.toList = l := by simp
theorem text_size {l : List Lbl} (h : okSet l) : (⟨(printL l).toArray⟩ : ByteArray).size ≤ maxLen := by
  have := printL_length_le h.1
  show (printL l).toArray.size ≤ maxLen
  unfold maxLen; simp; omega
theorem inhOne_perm {S T : List (List Lbl)} (h : ∀ x, x ∈ S ↔ x ∈ T) (l : List Lbl) (i : Inh) : inhOne S l i = inhOne T l i := by
  unfold inhOne
  congr 1
  rw [Bool.eq_iff_iff, List.any_eq_true, List.any_eq_true]
  exact ⟨fun ⟨x, hx, e⟩ => ⟨x, (h x).1 hx, e⟩, fun ⟨x, hx, e⟩ => ⟨x, (h x).2 hx, e⟩⟩
theorem hear_perm {S T : List (List Lbl)} (h : ∀ x, x ∈ S ↔ x ∈ T) (t : Int) (ss : List Sil) (hs : List Inh) : hearOne S t ss hs = hearOne T t ss hs := by
  funext l
  unfold hearOne inhF
  congr 3
  funext i
  exact inhOne_perm h l i
theorem turned_mem (S : List (List Lbl)) (c : Nat) : ∀ x, x ∈ S ↔ x ∈ S.drop c ++ S.take c := by
  intro x
  conv => lhs; rw [← List.take_append_drop c S]
  rw [List.mem_append, List.mem_append, or_comm]
theorem turned_len (S : List (List Lbl)) (c : Nat) (t : Int) (ss : List Sil) (hs : List Inh) : (heardF (S.drop c ++ S.take c) t ss hs).length = (heardF S t ss hs).length := by
  unfold heardF
  rw [← hear_perm (turned_mem S c), List.filter_append, List.length_append]
  conv => rhs; rw [← List.take_append_drop c S, List.filter_append, List.length_append]
  rw [List.take_append_drop]; omega
theorem turned_in {S : List (List Lbl)} {c : Nat} {t : Int} {ss : List Sil} {hs : List Inh} : ∀ x ∈ heardF (S.drop c ++ S.take c) t ss hs, x ∈ heardF S t ss hs := by
  intro x hx
  unfold heardF at *
  rw [List.mem_filter] at *
  rw [hear_perm (turned_mem S c)]
  exact ⟨(turned_mem S c x).2 hx.1, hx.2⟩
theorem heardF_sub {S : List (List Lbl)} {t : Int} {ss : List Sil} {hs : List Inh} : ∀ x ∈ heardF S t ss hs, x ∈ S := fun x hx => (List.mem_filter.1 hx).1
theorem heardF_nodup {S : List (List Lbl)} {t : Int} {ss : List Sil} {hs : List Inh} (h : S.Nodup) : (heardF S t ss hs).Nodup := h.sublist List.filter_sublist
theorem nodup_push {S : List (List Lbl)} {s : List Lbl} (h : S.Nodup) (hs : s ∉ S) : (S ++ [s]).Nodup := by
  rw [List.nodup_append]
  exact ⟨h, by simp, fun a ha b hb e => by rw [List.mem_singleton] at hb; subst hb; subst e; exact hs ha⟩
theorem nodup_at {S : List (List Lbl)} (h : S.Nodup) {k : Nat} (hk : k < S.length) : S[k] ∉ S.take k := by
  intro hm
  have h1 : (S.take (k + 1)).Nodup := h.sublist (List.take_sublist _ _)
  rw [List.take_succ_eq_append_getElem hk, List.nodup_append] at h1
  exact h1.2.2 _ hm _ (by simp) rfl
/-- A map's block is no row's. -/
theorem smap_ne {w : World} {b n n2 : Nat} {f : List UInt8 → Bool} {base : Nat} {e : TypeId} {size : Nat} {v : Value} {xs : List Value} (h : SMap w b n f) (h2 : w.ownsRow base e size v n2 xs) : ∀ g, v.ownBlock = some g → some b ≠ some g := by
  intro g hg he
  injection he with he; subst he
  obtain ⟨D, ⟨es, cl, hb, _⟩, _⟩ := h
  rcases h2.2 with ⟨rfl, _⟩ | ⟨g1, cap, cur, rfl, _, hh, _⟩
  · simp [Value.ownBlock] at hg
  · simp [Value.ownBlock] at hg
    subst hg
    rw [hh] at hb
    injection hb with hb; cases hb
theorem OwnL.grown {w w' : World} {v : Value} {l : List Lbl} {row : Option Nat} (h : OwnL w v l) (hg : w.grownBy w' row) (hne : ∀ g, v.ownBlock = some g → row ≠ some g) : OwnL w' v l := by
  obtain ⟨A, c, rfl, h2⟩ := h
  exact ⟨A, c, rfl, own_grown h2 hg hne⟩
theorem OwnRows.put {base b n : Nat} {f : List UInt8 → Bool} {v : Value} {rows : List (Value × List Lbl)} {w w' : World} (h : OwnRows base v rows w) (hm : SMap w b n f) (hg : w.grownBy w' (some b)) : OwnRows base v rows w' :=
  ⟨own_grown h.own hg (smap_ne hm h.own), fun x hx => by
    have h1 := h.each x hx
    obtain ⟨A, c, e, h2⟩ := h1
    exact (h.each x hx).grown hg (by rw [e]; exact smap_ne hm h2)⟩
theorem OwnL.put {b n : Nat} {f : List UInt8 → Bool} {v : Value} {l : List Lbl} {w w' : World} (h : OwnL w v l) (hm : SMap w b n f) (hg : w.grownBy w' (some b)) : OwnL w' v l := by
  obtain ⟨A, c, e, h2⟩ := h
  exact OwnL.grown (w := w) (v := v) (l := l) ⟨A, c, e, h2⟩ hg (by rw [e]; exact smap_ne hm h2)
theorem print_v {W : World} {v : Value} {l : List Lbl} (h : HasL W v l) :
    Calls Try.prog 18 #[v] W fun e w' => e = .returned (.string ⟨(printL l).toArray⟩) ∧ Below W.heap.size W w' := by
  obtain ⟨A, c, rfl, h3, h4, h5⟩ := h
  exact print_any A _ c l _ W h3 (Nat.le_refl _) (by omega)
end Go.Proofs.Ytfcjalojgmpnoaa
