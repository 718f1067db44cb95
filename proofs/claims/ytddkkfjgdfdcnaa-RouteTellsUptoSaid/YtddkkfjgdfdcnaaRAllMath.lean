/- Mathematics of RouteAll. -/
import Derived.Test.YtddkkfjgdfdcnaaRouteAll
import Derived.Test.YtddkkfjgdfdcnaaSMap
import Derived.Test.YtddkkfjgdfdcnaaLblRows
import Derived.Test.YtddkkfjgdfdcnaaRouteRuns
import Derived.Test.YtddkkfjgdfdcnaaGoesMath
import Derived.Test.YtddkkfjgdfdcnaaTree2
import Derived.Test.YtddkkfjgdfdcnaaArgsMute
namespace Go.Proofs.Ytddkkfjgdfdcnaa
open Go.ChangeShapes Go.WideShapes Go.ChangeAt Go.RowKit Go.Sort Go.Lib
set_option linter.unusedVariables false
set_option linter.unusedSimpArgs false
set_option maxRecDepth 100000
/-- A receiver of a tree of three floors. -/
def Nms (r : RT) (t : ByteArray) : Prop := t = r.nm ∨ ∃ k ∈ r.kids, t = k.nm ∨ ∃ x ∈ k.kids, t = x.nm
theorem goKids_mem {f : RT → List ByteArray} {l : List Lbl} {t : ByteArray} : ∀ {ks : List RT}, t ∈ goKids f l ks → ∃ k ∈ ks, t ∈ f k
  | [], h => by simp [goKids] at h
  | k :: ks, h => by
    unfold goKids at h
    split at h
    · rcases List.mem_append.1 h with h | h
      · exact ⟨k, List.mem_cons_self, h⟩
      · split at h
        · obtain ⟨x, hx, hy⟩ := goKids_mem h
          exact ⟨x, List.mem_cons_of_mem _ hx, hy⟩
        · exact absurd h List.not_mem_nil
    · obtain ⟨x, hx, hy⟩ := goKids_mem h
      exact ⟨x, List.mem_cons_of_mem _ hx, hy⟩
theorem toF_step {l : List Lbl} {d : Nat} {r : RT} {t : ByteArray} (h : t ∈ toF l (d + 1) r) : t = r.nm ∨ ∃ k ∈ r.kids, t ∈ toF l d k := by
  unfold toF at h
  split at h
  · exact .inl (by simpa using h)
  · exact .inr (goKids_mem h)
theorem toF_nms {l : List Lbl} {r : RT} {t : ByteArray} (h : t ∈ toF l 3 r) : Nms r t := by
  rcases toF_step h with h | ⟨k, hk, h⟩
  · exact .inl h
  · refine .inr ⟨k, hk, ?_⟩
    rcases toF_step h with h | ⟨x, hx, h⟩
    · exact .inl h
    · refine .inr ⟨x, hx, ?_⟩
      rcases toF_step h with h | ⟨y, hy, h⟩
      · exact h
      · simp [toF] at h
/-- Is a text one of these. -/
def nmem (L : List ByteArray) : List UInt8 → Bool := fun x => L.any fun t => x == t.data.toList
theorem nmem_push (L : List ByteArray) (t : ByteArray) : (fun x => x == t.data.toList || nmem L x) = nmem (t :: L) := by
  funext x; unfold nmem; rw [List.any_cons]
theorem nmem_in {L : List ByteArray} {t : ByteArray} (h : t ∈ L) : nmem L t.data.toList = true := List.any_eq_true.2 ⟨t, h, by simp⟩
theorem nmem_iff {L : List ByteArray} {x : List UInt8} : nmem L x = true ↔ x ∈ bts L := by
  unfold nmem bts
  rw [List.any_eq_true, List.mem_map]
  constructor
  · rintro ⟨t, ht, h⟩; exact ⟨t, ht, by simpa using (by simpa using h : x = t.data.toList).symm⟩
  · rintro ⟨t, ht, h⟩; exact ⟨t, ht, by simp [← h]⟩
/-- How many of them are told apart. -/
def dist : List ByteArray → Nat
  | [] => 0
  | t :: L => if nmem L t.data.toList = true then dist L else dist L + 1
def ded : List ByteArray → List (List UInt8)
  | [] => []
  | t :: L => if nmem L t.data.toList = true then ded L else t.data.toList :: ded L
theorem ded_ok (L : List ByteArray) : (ded L).length = dist L ∧ (ded L).Nodup ∧ ∀ x, x ∈ ded L ↔ x ∈ bts L := by
  induction L with
  | nil => exact ⟨rfl, List.nodup_nil, fun x => by simp [ded, bts]⟩
  | cons t L ih =>
    obtain ⟨h1, h2, h3⟩ := ih
    unfold ded dist
    by_cases h : nmem L t.data.toList = true
    · rw [if_pos h, if_pos h]
      refine ⟨h1, h2, fun x => ?_⟩
      rw [h3, show bts (t :: L) = t.data.toList :: bts L from rfl, List.mem_cons]
      exact ⟨fun hx => .inr hx, fun hx => hx.elim (fun e => by rw [e]; exact nmem_iff.1 h) id⟩
    · rw [if_neg h, if_neg h]
      refine ⟨by rw [List.length_cons, h1], List.nodup_cons.2 ⟨fun hx => h (nmem_iff.2 ((h3 _).1 hx)), h2⟩, fun x => ?_⟩
      rw [List.mem_cons, h3, show bts (t :: L) = t.data.toList :: bts L from rfl, List.mem_cons]
theorem nodup_le {α : Type} [DecidableEq α] : ∀ {l : List α} {m : List α}, l.Nodup → (∀ x ∈ l, x ∈ m) → l.length ≤ m.length
  | [], _, _, _ => Nat.zero_le _
  | x :: l, m, hn, hs => by
    obtain ⟨h1, h2⟩ := List.nodup_cons.1 hn
    have hx := hs x List.mem_cons_self
    have h3 := nodup_le (l := l) (m := m.erase x) h2 (fun y hy => (List.mem_erase_of_ne (fun e => h1 (by rw [← e]; exact hy))).2 (hs y (List.mem_cons_of_mem _ hy)))
    have h4 := List.length_erase_of_mem hx
    have h5 := List.length_pos_of_mem hx
    rw [List.length_cons]; omega
theorem dist_sort {L M : List ByteArray} (h : ∀ t, t ∈ L ↔ t ∈ M) : (txs (sortC (bts M))).length = dist L := by
  obtain ⟨h1, h2, h3⟩ := ded_ok L
  obtain ⟨k1, k2⟩ := sortC_ok (bts M)
  have hm : ∀ x, x ∈ bts L ↔ x ∈ bts M := fun x => by
    unfold bts; rw [List.mem_map, List.mem_map]
    exact ⟨fun ⟨t, ht, e⟩ => ⟨t, (h t).1 ht, e⟩, fun ⟨t, ht, e⟩ => ⟨t, (h t).2 ht, e⟩⟩
  have ha := nodup_le (l := sortC (bts M)) (m := ded L) (rises_nodup k2) (fun x hx => (h3 x).2 ((hm x).2 ((k1 x).1 hx)))
  have hb := nodup_le (l := ded L) (m := sortC (bts M)) h2 (fun x hx => (k1 x).2 ((hm x).1 ((h3 x).1 hx)))
  rw [← h1]
  unfold txs
  rw [List.length_map]; omega
theorem sum_ge_len {α : Type} {f : α → Nat} : ∀ {l : List α}, (∀ x ∈ l, 1 ≤ f x) → l.length ≤ (l.map f).sum
  | [], _ => Nat.zero_le _
  | x :: l, h => by
    have h1 := h x List.mem_cons_self
    have h2 := sum_ge_len (l := l) (fun y hy => h y (List.mem_cons_of_mem _ hy))
    rw [List.length_cons, List.map_cons, List.sum_cons]; omega
theorem sum_mem_le {α : Type} {f : α → Nat} : ∀ {l : List α} {x : α}, x ∈ l → f x ≤ (l.map f).sum
  | y :: l, x, h => by
    rw [List.map_cons, List.sum_cons]
    rcases List.mem_cons.1 h with rfl | h
    · omega
    · have := sum_mem_le (f := f) h; omega
theorem kids_few {r : RT} (h : countF 3 r ≤ 9) : r.kids.length ≤ 8 ∧ ∀ k ∈ r.kids, k.kids.length ≤ 8 := by
  have h1 : countF 3 r = 1 + (r.kids.map (countF 2)).sum := rfl
  refine ⟨?_, fun k hk => ?_⟩
  · have := sum_ge_len (f := countF 2) (l := r.kids) (fun x _ => count_pos 2 x (by omega)); omega
  · have h2 := sum_mem_le (f := countF 2) hk
    have h3 : countF 2 k = 1 + (k.kids.map (countF 1)).sum := rfl
    have := sum_ge_len (f := countF 1) (l := k.kids) (fun x _ => count_pos 1 x (by omega)); omega
/-- A right tree with another kid ahead. -/
def firstT : RT := .mk (.slice none 0 0) [] ⟨#[102, 105, 114, 115, 116]⟩ false (.slice none 0 0) []
def aloneT (kv : Value) (ks : List RT) : RT := .mk (.slice none 0 0) [] ⟨#[97]⟩ false kv (firstT :: ks)
theorem alone_right {r : RT} {kv : Value} (h : rightT 3 r = true) (hc : countF 3 r ≤ 9) : rightT 3 (aloneT kv r.kids) = true ∧ countF 3 (aloneT kv r.kids) ≤ 10 := by
  have h1 : countF 3 r = 1 + (r.kids.map (countF 2)).sum := rfl
  have h2 : countF 3 (aloneT kv r.kids) = 1 + (1 + (r.kids.map (countF 2)).sum) := by
    show 1 + ((firstT :: r.kids).map (countF 2)).sum = _
    rw [List.map_cons, List.sum_cons]; rfl
  refine ⟨?_, by omega⟩
  unfold rightT at h ⊢
  simp only [Bool.and_eq_true, decide_eq_true_eq] at h ⊢
  obtain ⟨_, hr, _⟩ := h
  refine ⟨rfl, ?_, by omega⟩
  have hk : r.kids.all (rightF 2 2) = true := by
    unfold rightF at hr
    simp only [Bool.and_eq_true] at hr
    exact hr.2.2.2
  have hf : rightF 2 2 firstT = true := by decide
  have hw : wordF (⟨#[97]⟩ : ByteArray) = true := by decide
  show (decide (1 ≤ 8) && (wordF ⟨#[97]⟩ && (rightM [] && (firstT :: r.kids).all (rightF 2 2)))) = true
  rw [hw, List.all_cons, hf, hk]; rfl
theorem alone_to (kv : Value) (ks : List RT) : toF [] 3 (aloneT kv ks) = [⟨#[102, 105, 114, 115, 116]⟩] := by
  have h : goKids (toF [] 2) [] (firstT :: ks) = [⟨#[102, 105, 114, 115, 116]⟩] := by
    rw [goKids, if_pos (show allF [] firstT.ms = true by decide)]
    rfl
  show (if goKids (toF [] 2) [] (firstT :: ks) = [] then [(⟨#[97]⟩ : ByteArray)] else goKids (toF [] 2) [] (firstT :: ks)) = _
  rw [h]; rfl
theorem alone_ok {w : World} {r : RT} {kv : Value} (h : okAt 3 r w) (hk : HasK w kv (firstT :: r.kids)) : okAt 3 (aloneT kv r.kids) w := by
  refine ⟨⟨none, 0, rfl, Sees.nil, Nat.le_refl _, by simp [aloneT, RT.ms]⟩, hk, fun q hq => ?_⟩
  rcases List.mem_cons.1 (show q ∈ firstT :: r.kids from hq) with rfl | hq
  · exact ⟨⟨none, 0, rfl, Sees.nil, Nat.le_refl _, by simp [firstT, RT.ms]⟩, ⟨none, 0, rfl, Sees.nil, Nat.le_refl _, by simp [firstT, RT.kids]⟩, (fun x hx => absurd hx List.not_mem_nil)⟩
  · exact h.2.2 q hq
theorem smap_ne {w : World} {b n n2 : Nat} {f : List UInt8 → Bool} {base : Nat} {e : TypeId} {size : Nat} {v : Value} {xs : List Value} (h : SMap w b n f) (h2 : w.ownsRow base e size v n2 xs) : ∀ g, v.ownBlock = some g → some b ≠ some g := by
  intro g hg he
  injection he with he; subst he
  obtain ⟨D, ⟨es, cl, hb, _⟩, _⟩ := h
  rcases h2.2 with ⟨rfl, _⟩ | ⟨g1, cap, cur, rfl, _, hh, _⟩
  · simp [Value.ownBlock] at hg
  · simp [Value.ownBlock] at hg
    subst hg
    rw [hh] at hb
    injection hb with hb; cases hb
theorem OwnL.grown {w w' : World} {v : Value} {l : List Lbl} {row : Option Nat} (h : OwnL w v l) (hg : w.grownBy w' row) (hne : ∀ g, v.ownBlock = some g → row ≠ some g) : OwnL w' v l := by
  obtain ⟨A, c, rfl, h2⟩ := h
  exact ⟨A, c, rfl, own_grown h2 hg hne⟩
theorem OwnRows.put {base b n : Nat} {f : List UInt8 → Bool} {v : Value} {rows : List (Value × List Lbl)} {w w' : World} (h : OwnRows base v rows w) (hm : SMap w b n f) (hg : w.grownBy w' (some b)) : OwnRows base v rows w' :=
  ⟨own_grown h.own hg (smap_ne hm h.own), fun x hx => by
    have h1 := h.each x hx
    obtain ⟨A, c, e, h2⟩ := h1
    exact (h.each x hx).grown hg (by rw [e]; exact smap_ne hm h2)⟩
theorem OwnL.put {b n : Nat} {f : List UInt8 → Bool} {v : Value} {l : List Lbl} {w w' : World} (h : OwnL w v l) (hm : SMap w b n f) (hg : w.grownBy w' (some b)) : OwnL w' v l := by
  obtain ⟨A, c, e, h2⟩ := h
  exact OwnL.grown (w := w) (v := v) (l := l) ⟨A, c, e, h2⟩ hg (by rw [e]; exact smap_ne hm h2)
theorem wpList_ins_smap {P : Program} {w : World} {ops : Array Oper} {rest : List Oper} {o : Oper} {a : Act} {Q : Exit → Act → World → Prop} (hg : o.guard = none) (m x v : Operand) (t : TypeId) (hop : o.op = Op.insert t m x v)
    (vm vx vv : Value) (hm : a.eval m = vm) (hx : a.eval x = vx) (hv : a.eval v = vv) (w' : World) (hrun : (Instr.mapUpdate t vm vx vv).run P w = .ok () w') (hK : wpList P ops Q rest (a.put o.dst undef) w') : wpList P ops Q (o :: rest) a w := by
  refine wpList_plain hg fun K' hK' => ?_
  unfold Oper.wp
  simp [execOp, hop, hm, hx, hv, hrun, Result.andThen]
  exact hK' _ _ hK
/-- The names of a tree, its first k kids', lie in a list. -/
def Cov (r : RT) (k : Nat) (L : List ByteArray) : Prop := r.nm ∈ L ∧ ∀ q ∈ r.kids.take k, q.nm ∈ L ∧ ∀ x ∈ q.kids, x.nm ∈ L
theorem Cov.cons {r : RT} {k : Nat} {L : List ByteArray} (h : Cov r k L) (t : ByteArray) : Cov r k (t :: L) := ⟨List.mem_cons_of_mem _ h.1, fun q hq => ⟨List.mem_cons_of_mem _ (h.2 q hq).1, fun x hx => List.mem_cons_of_mem _ ((h.2 q hq).2 x hx)⟩⟩
theorem Cov.start (r : RT) : Cov r 0 [r.nm] := ⟨List.mem_singleton.2 rfl, fun q hq => by simp at hq⟩
theorem Cov.more {r : RT} {k : Nat} {L : List ByteArray} (h : Cov r k L) (hk : k < r.kids.length) (h1 : r.kids[k].nm ∈ L) (h2 : ∀ x ∈ r.kids[k].kids, x.nm ∈ L) : Cov r (k + 1) L := ⟨h.1, fun q hq => by
  rw [List.take_succ_eq_append_getElem hk] at hq
  rcases List.mem_append.1 hq with hq | hq
  · exact h.2 q hq
  · rw [List.mem_singleton] at hq; subst hq; exact ⟨h1, h2⟩⟩
theorem Cov.nms {r : RT} {L : List ByteArray} (h : Cov r r.kids.length L) {t : ByteArray} (ht : Nms r t) : t ∈ L := by
  rcases ht with rfl | ⟨k, hk, rfl | ⟨x, hx, rfl⟩⟩
  · exact h.1
  · exact (h.2 k (by rw [List.take_length]; exact hk)).1
  · exact (h.2 k (by rw [List.take_length]; exact hk)).2 x hx
/-- A tree's own texts are no longer than a text may be. -/
theorem nm_size {d : Nat} {r : RT} (h : szAt (d + 1) r) : r.nm.size ≤ maxLen := h.2.1
theorem nms_size {r : RT} {t : ByteArray} (h : szAt 3 r) (ht : Nms r t) : t.size ≤ maxLen := by
  rcases ht with rfl | ⟨k, hk, rfl | ⟨x, hx, rfl⟩⟩
  · exact nm_size h
  · exact nm_size (h.2.2 k hk)
  · exact nm_size ((h.2.2 k hk).2.2 x hx)
theorem allR_push (d : Nat) (r : RT) (S : List (List Lbl)) (l : List Lbl) : allR d r (S ++ [l]) = allR d r S ++ toR d r l := by
  unfold allR; rw [List.flatMap_append]; simp
theorem toR_right {d : Nat} {r : RT} {l : List Lbl} (h : rightT d r = true) : toR d r l = toF l d r := by unfold toR; rw [if_pos h]
theorem txs_get (l : List (List UInt8)) (j : Nat) (h : j < (txs l).length) (h2 : j < l.length) : ((txs l)[j]).toList = l[j] := by
  have e : (txs l)[j] = ⟨(l[j]).toArray⟩ := List.getElem_map _
  rw [e, ByteArray.toList_eq]
/-- What All answers: texts of the sets' receivers, rising. -/
theorem all_facts {r : RT} {S : List (List Lbl)} {D : List ByteArray} (hr : rightT 3 r = true) (hs : szAt 3 r) (hD : ∀ t, t ∈ D ↔ t ∈ allR 3 r S) :
    (txs (sortC (bts (allR 3 r S)))).length = dist D ∧ (∀ t ∈ txs (sortC (bts (allR 3 r S))), nmem D t.data.toList = true ∧ t.size ≤ maxLen) ∧
    ∀ i (h : i + 1 < (txs (sortC (bts (allR 3 r S)))).length), Op.bytesLess ((txs (sortC (bts (allR 3 r S))))[i]'(by omega)).toList ((txs (sortC (bts (allR 3 r S))))[i + 1]).toList = true := by
  obtain ⟨k1, k2⟩ := sortC_ok (bts (allR 3 r S))
  refine ⟨dist_sort hD, fun t ht => ?_, fun i h => ?_⟩
  · have h1 : t.data.toList ∈ bts (allR 3 r S) := by
      rw [← k1, ← bts_txs (sortC (bts (allR 3 r S)))]
      exact List.mem_map.2 ⟨t, ht, rfl⟩
    obtain ⟨u, hu, he⟩ := List.mem_map.1 h1
    have hut : u = t := by
      obtain ⟨⟨a⟩⟩ := u; obtain ⟨⟨b⟩⟩ := t
      have : a = b := he
      rw [this]
    subst hut
    refine ⟨nmem_in ((hD _).2 hu), ?_⟩
    unfold allR at hu
    obtain ⟨l, _, hl⟩ := List.mem_flatMap.1 hu
    rw [toR_right hr] at hl
    exact nms_size hs (toF_nms hl)
  · have hlen : (txs (sortC (bts (allR 3 r S)))).length = (sortC (bts (allR 3 r S))).length := by unfold txs; rw [List.length_map]
    have h2 := List.pairwise_iff_getElem.1 k2 i (i + 1) (by omega) (by omega) (by omega)
    rw [txs_get _ i (by omega) (by omega), txs_get _ (i + 1) h (by omega), bytesLess_eq, decide_eq_true_eq]
    exact Std.lt_of_le_of_ne h2.1 h2.2
theorem all_facts2 {r : RT} {S : List (List Lbl)} {D E : List ByteArray} (hr : rightT 3 r = true) (hs : szAt 3 r) (hD : ∀ t, t ∈ D ↔ t ∈ allR 3 r S) (hS : S.length ≤ 6) (hE : txs (sortC (bts (allR 3 r S))) = E) :
    E.length = dist D ∧ (∀ t ∈ E, nmem D t.data.toList = true ∧ t.size ≤ maxLen) ∧ (∀ i (h : i + 1 < E.length), Op.bytesLess (E[i]'(by omega)).toList (E[i + 1]).toList = true) ∧ E.length ≤ 100 := by
  subst hE
  obtain ⟨f1, f2, f3⟩ := all_facts hr hs hD
  refine ⟨f1, f2, f3, ?_⟩
  have h1 := allR_len 3 r S
  have h3 := (sortC_ok (bts (allR 3 r S)))
  have h4 := nodup_le (l := sortC (bts (allR 3 r S))) (m := bts (allR 3 r S)) (rises_nodup h3.2) (fun x hx => (h3.1 x).1 hx)
  have h5 : (bts (allR 3 r S)).length = (allR 3 r S).length := by unfold bts; rw [List.length_map]
  unfold txs; rw [List.length_map]; omega
theorem kids_one {w : World} {d : Nat} {ks : List RT} (h : ∀ q ∈ ks, okAt d q w) : ∀ u ∈ quad (ks.map RT.cells), u.oneCell' = true := by
  intro u hu
  obtain ⟨c, hc, hu2⟩ := List.mem_flatMap.1 hu
  obtain ⟨q, hq, rfl⟩ := List.mem_map.1 hc
  obtain ⟨A5, c5, A6, c6, hv5, hv6⟩ := okAt_form (h q hq)
  unfold RT.cells at hu2
  rw [hv5, hv6] at hu2
  simp only [List.mem_cons, List.not_mem_nil, or_false] at hu2
  rcases hu2 with rfl | rfl | rfl | rfl <;> rfl
theorem alone_row {w : World} {base : Nat} {A : Option Addr} {c : Nat} {r : RT} (h : w.ownsRow base 28 4 (.slice A (1 + r.kids.length) c) (1 + r.kids.length) ([.slice none 0 0, .string ⟨#[102, 105, 114, 115, 116]⟩, .bool false, .slice none 0 0] ++ quad (r.kids.map RT.cells))) : HasK w (.slice A (1 + r.kids.length) c) (firstT :: r.kids) := by
  obtain ⟨A', c', h1, h2, h3⟩ := own_slice h
  injection h1 with h1 _ h4; subst h1; subst h4
  have hl : (firstT :: r.kids).length = 1 + r.kids.length := by rw [List.length_cons]; omega
  exact ⟨A, c, by rw [hl], by rw [hl]; exact Sees.of_own h, by rw [hl]; exact h2, h3⟩
theorem all_none (r : RT) : txs (sortC (bts (allR 3 r (([] : List (Value × List Lbl)).map Prod.snd)))) = [] := by
  have h := sortC_ok (bts (allR 3 r (([] : List (Value × List Lbl)).map Prod.snd)))
  have h2 : sortC (bts (allR 3 r (([] : List (Value × List Lbl)).map Prod.snd))) = [] := List.eq_nil_iff_forall_not_mem.2 fun x hx => by
    have := (h.1 x).1 hx
    simp [allR, bts] at this
  rw [h2]; rfl
theorem KTree.ok.more {k : KTree} {B B' : Nat} {w : World} (h : k.ok B w) (hB : B ≤ B') : k.ok B' w := ⟨h.us_.more hB, h.usI, h.n_, h.ms_.more hB, h.msI, h.n2_, h.gs_.more hB, h.gsI, h.n3_⟩
end Go.Proofs.Ytddkkfjgdfdcnaa
