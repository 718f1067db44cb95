/- What an argument's reading says of memory: a tree of routes, however deep. -/
import Derived.Test.YtddkkfjgdfdcnaaArgsMute
import Derived.Test.YtddkkfjgdfdcnaaRefRoute
import Derived.Test.YtddkkfjgdfdcnaaRows
import Derived.Lib.SmallJoins
namespace Go.Proofs.Ytddkkfjgdfdcnaa
open Go.RowKit Go.ChangeShapes Go.WideShapes Go.ChangeAt
set_option linter.unusedVariables false
theorem okAt_more {w : World} : ∀ (d : Nat) (r : RT), okAt d r w → okAt (d + 1) r w
  | 0, _, h => h.elim
  | d + 1, r, h => ⟨h.1, h.2.1, fun k hk => okAt_more d k (h.2.2 k hk)⟩
theorem szAt_more {w : World} : ∀ (d : Nat) (r : RT), okAt d r w → szAt d r → szAt (d + 1) r
  | 0, _, h, _ => h.elim
  | d + 1, r, h, hs => ⟨hs.1, hs.2.1, fun k hk => szAt_more (w := w) d k (h.2.2 k hk) (hs.2.2 k hk)⟩
theorem both_le {w : World} {r : RT} {d : Nat} (h : okAt d r w) (hs : szAt d r) : ∀ e, okAt (d + e) r w ∧ szAt (d + e) r
  | 0 => ⟨h, hs⟩
  | e + 1 => ⟨okAt_more _ _ (both_le h hs e).1, szAt_more _ _ (both_le h hs e).1 (both_le h hs e).2⟩
theorem sees_quad {w : World} {B len : Nat} {A : Option Addr} {l : List (Value × Value × Value × Value)} (hl : l.length = len)
    (h1 : 0 < len → ∃ a, A = some a ∧ a.block < B ∧ ∀ i (h : i < l.length), w.cell? (a.add (i * 4)) = some l[i].1 ∧ w.cell? (a.add (i * 4 + 1)) = some l[i].2.1 ∧ w.cell? (a.add (i * 4 + 2)) = some l[i].2.2.1 ∧ w.cell? (a.add (i * 4 + 3)) = some l[i].2.2.2) :
    Sees w B 4 A len (quad l) := by
  refine ⟨by rw [quad_length, hl], fun hn => ?_⟩
  obtain ⟨a, e, hb, hc⟩ := h1 hn
  refine ⟨a, e, hb, fun j u hu => ?_⟩
  have hj : j < len * 4 := by
    have := (List.getElem?_eq_some_iff.1 hu).1
    rw [quad_length, hl] at this; exact this
  have hi : j / 4 < l.length := by omega
  obtain ⟨g0, g1, g2, g3⟩ := quad_get l (j / 4) hi
  obtain ⟨c0, c1, c2, c3⟩ := hc (j / 4) hi
  have h4 : j % 4 = 0 ∨ j % 4 = 1 ∨ j % 4 = 2 ∨ j % 4 = 3 := by omega
  rcases h4 with h4 | h4 | h4 | h4
  · have e2 : j / 4 * 4 = j := by omega
    rw [e2] at g0 c0; rw [g0] at hu; injection hu with hu; subst hu; exact c0
  · have e2 : j / 4 * 4 + 1 = j := by omega
    rw [e2] at g1 c1; rw [g1] at hu; injection hu with hu; subst hu; exact c1
  · have e2 : j / 4 * 4 + 2 = j := by omega
    rw [e2] at g2 c2; rw [g2] at hu; injection hu with hu; subst hu; exact c2
  · have e2 : j / 4 * 4 + 3 = j := by omega
    rw [e2] at g3 c3; rw [g3] at hu; injection hu with hu; subst hu; exact c3
section
variable {w : World} {base : Nat} {spare : Nat → Bool} {held : Bool} {H : Type} {enc : TypeId × Value → H}
/-- The four cells are a tree. -/
def IsTree (w : World) (d : Nat) (cs : List Value) (b : Nat) : Prop := ∃ T : RT, cs = [T.mv, .string T.nm, .bool T.goes, T.kv] ∧ okAt d T w ∧ szAt d T ∧ 2 * countF d T ≤ b
theorem bulk_one {H : Type} (d : DataW H) : 1 ≤ Rows.uptoBulk d := by
  cases d with
  | lit l => cases l <;> simp [Rows.uptoBulk]
  | nil => simp [Rows.uptoBulk]
  | ptr d => simp [Rows.uptoBulk]
  | slice elems spare => simp [Rows.uptoBulk]
  | agg parts => simp [Rows.uptoBulk]
  | iface t d => simp [Rows.uptoBulk]
  | map entries => simp [Rows.uptoBulk]
  | held h => simp [Rows.uptoBulk]
theorem bulk_part {H : Type} {d : DataW H} {l : List (DataW H)} (h : d ∈ l) : Rows.uptoBulk d ≤ Rows.uptoBulkAll l := by
  induction l with
  | nil => cases h
  | cons x r ih =>
    simp only [Rows.uptoBulkAll]
    cases List.mem_cons.1 h with
    | inl e => subst e; omega
    | inr e => have := ih e; omega
theorem countF_more {w : World} : ∀ (d : Nat) (r : RT), okAt d r w → countF (d + 1) r = countF d r
  | 0, _, h => h.elim
  | d + 1, r, h => by
    show 1 + (r.kids.map (countF (d + 1))).sum = 1 + (r.kids.map (countF d)).sum
    rw [List.map_congr_left (fun k hk => countF_more d k (h.2.2 k hk))]
theorem sum_bulk {H : Type} (f : RT → Nat) : ∀ (es : List (DataW H)) (q : Nat → RT), (∀ i (h : i < es.length), f (q i) ≤ Rows.uptoBulk es[i]) → (((List.range es.length).map q).map f).sum ≤ Rows.uptoBulkAll es
  | [], _, _ => by simp
  | e :: es, q, h => by
    have h0 := h 0 (by simp)
    have h1 := sum_bulk f es (fun i => q (i + 1)) (fun i hi => h (i + 1) (by simpa using hi))
    rw [List.length_cons, List.range_succ_eq_map, List.map_cons, List.map_cons, List.sum_cons]
    have e2 : ((List.map Nat.succ (List.range es.length)).map q) = (List.range es.length).map fun i => q (i + 1) := by rw [List.map_map]; rfl
    rw [e2]
    simp only [List.getElem_cons_zero] at h0
    show f (q 0) + _ ≤ Rows.uptoBulk e + Rows.uptoBulkAll es
    omega
theorem sum_two (f : RT → Nat) (l : List RT) : (l.map fun x => 2 * f x).sum = 2 * (l.map f).sum := by
  induction l with
  | nil => rfl
  | cons x l ih => rw [List.map_cons, List.sum_cons, ih, List.map_cons, List.sum_cons]; omega
/-- A tree in fewer floors. -/
theorem okAt_cut {w : World} : ∀ (d : Nat) (r : RT) (e : Nat), okAt d r w → szAt d r → countF d r ≤ e → okAt e r w ∧ szAt e r ∧ countF e r = countF d r
  | 0, _, _, h, _, _ => h.elim
  | d + 1, r, e, h, hs, hc => by
    have hc2 : 1 + (r.kids.map (countF d)).sum ≤ e := hc
    obtain ⟨e, rfl⟩ : ∃ e', e = e' + 1 := ⟨e - 1, by omega⟩
    have key : ∀ k ∈ r.kids, okAt e k w ∧ szAt e k ∧ countF e k = countF d k := fun k hk => by
      refine okAt_cut d k e (h.2.2 k hk) (hs.2.2 k hk) ?_
      have : countF d k ≤ (r.kids.map (countF d)).sum := by
        clear h hs hc hc2
        generalize r.kids = l at *
        induction l with
        | nil => cases hk
        | cons x l ih =>
          rw [List.map_cons, List.sum_cons]
          rcases List.mem_cons.1 hk with rfl | hk
          · omega
          · have := ih hk; omega
      omega
    refine ⟨⟨h.1, h.2.1, fun k hk => (key k hk).1⟩, ⟨hs.1, hs.2.1, fun k hk => (key k hk).2.1⟩, ?_⟩
    show 1 + (r.kids.map (countF e)).sum = 1 + (r.kids.map (countF d)).sum
    rw [List.map_congr_left (fun k hk => (key k hk).2.2)]
theorem route_of : ∀ (fuel : Nat) (cs : List Value) (x : DataW H × List MemPlace), DataW.trod enc Try.prog w base spare held fuel 28 cs = some x → IsTree w fuel cs (Rows.uptoBulk x.1) := by
  intro fuel
  induction fuel using Nat.strongRecOn with
  | _ fuel ih =>
    intro cs x h
    obtain ⟨xs, n, rfl, hxx, hlen, hxl, hf⟩ := DataW.trod_struct Try.underlying28 h
    have hc4 : Try.prog.cellsOf 28 = 4 := by kernel_rfl
    rw [hc4] at hlen
    obtain ⟨c0, c1, c2, c3, rfl⟩ : ∃ c0 c1 c2 c3, cs = [c0, c1, c2, c3] := by
      match cs, hlen with
      | [c0, c1, c2, c3], _ => exact ⟨c0, c1, c2, c3, rfl⟩
    have hx4 : xs.length = 4 := by rw [hxl]; rfl
    have f0 := hf 0 _ rfl
    change DataW.trod enc Try.prog w base spare held n 22 (List.take (Try.prog.cellsOf 22) (List.drop 0 [c0, c1, c2, c3])) = xs[0]? at f0
    rw [show Try.prog.cellsOf 22 = 1 by kernel_rfl, List.getElem?_eq_getElem (by omega)] at f0
    change DataW.trod enc Try.prog w base spare held n 22 [c0] = _ at f0
    have f1 := hf 1 _ rfl
    change DataW.trod enc Try.prog w base spare held n 9 (List.take (Try.prog.cellsOf 9) (List.drop 1 [c0, c1, c2, c3])) = xs[1]? at f1
    rw [show Try.prog.cellsOf 9 = 1 by kernel_rfl, List.getElem?_eq_getElem (by omega)] at f1
    change DataW.trod enc Try.prog w base spare held n 9 [c1] = _ at f1
    have f2 := hf 2 _ rfl
    change DataW.trod enc Try.prog w base spare held n 4 (List.take (Try.prog.cellsOf 4) (List.drop 2 [c0, c1, c2, c3])) = xs[2]? at f2
    rw [show Try.prog.cellsOf 4 = 1 by kernel_rfl, List.getElem?_eq_getElem (by omega)] at f2
    change DataW.trod enc Try.prog w base spare held n 4 [c2] = _ at f2
    have f3 := hf 3 _ rfl
    change DataW.trod enc Try.prog w base spare held n 26 (List.take (Try.prog.cellsOf 26) (List.drop 3 [c0, c1, c2, c3])) = xs[3]? at f3
    rw [show Try.prog.cellsOf 26 = 1 by kernel_rfl, List.getElem?_eq_getElem (by omega)] at f3
    change DataW.trod enc Try.prog w base spare held n 26 [c3] = _ at f3
    obtain ⟨ms, hm, hmok⟩ := cell_mtcs f0
    obtain ⟨nm, rfl, hnm⟩ := cell_str Try.underlying9 f1
    obtain ⟨gs, rfl⟩ := cell_bool Try.underlying4 f2
    have hms : ∀ z ∈ ms, z.1.size ≤ 9223372036854775807 ∧ z.2.1.size ≤ 9223372036854775807 := fun z hz => by have h := hmok z hz; unfold maxLen at h; exact h
    have hnm2 : nm.size ≤ 9223372036854775807 := by unfold maxLen at hnm; exact hnm
    have kids : ∃ ks : List RT, HasK w c3 ks ∧ (∀ k ∈ ks, okAt n k w ∧ szAt n k) ∧ 2 * (ks.map (countF n)).sum + 1 ≤ Rows.uptoBulk xs[3].1 := by
      rcases DataW.trod_slice Try.underlying26 f3 with ⟨hcs, hx3⟩ | ⟨a, len, cap, elems, rest, m, hn, hcs, hx3, _, hle, hmx, hel, hget, _⟩
      · simp at hcs; subst hcs
        exact ⟨[], ⟨none, 0, rfl, Sees.nil, Nat.le_refl _, by simp⟩, (fun k hk => absurd hk List.not_mem_nil), by have := bulk_one xs[3].1; simpa using this⟩
      · simp at hcs; subst hcs; subst hn
        rw [hc4] at hget
        have each : ∀ i, i < len → ∃ T : RT, (w.cell? (a.add (i * 4)) = some T.mv ∧ w.cell? (a.add (i * 4 + 1)) = some (.string T.nm) ∧ w.cell? (a.add (i * 4 + 2)) = some (.bool T.goes) ∧ w.cell? (a.add (i * 4 + 3)) = some T.kv) ∧ okAt m T w ∧ szAt m T ∧ ∀ h : i < elems.length, 2 * countF m T ≤ Rows.uptoBulk elems[i].1 := by
          intro i hi
          have h1 := hget i hi
          rw [List.getElem?_eq_getElem (by omega)] at h1
          cases hcc : w.cells? base (a.add (i * 4)) 4 with
          | none => rw [hcc] at h1; cases h1
          | some cs' =>
            rw [hcc] at h1
            obtain ⟨_, hlen', hcell⟩ := World.cells?_some hcc
            obtain ⟨T, hT, hok, hsz, hcnt⟩ := ih m (by omega) cs' _ h1
            subst hT
            have e0 := hcell 0 (by omega)
            have e1 := hcell 1 (by omega)
            have e2 := hcell 2 (by omega)
            have e3 := hcell 3 (by omega)
            rw [add_add] at e0 e1 e2 e3
            exact ⟨T, ⟨by simpa using e0, by simpa using e1, by simpa using e2, by simpa using e3⟩, hok, hsz, fun _ => hcnt⟩
        have : Inhabited RT := ⟨.mk (.slice none 0 0) [] ⟨#[]⟩ false (.slice none 0 0) []⟩
        obtain ⟨q, hq⟩ := Deep.choose_lt each
        refine ⟨(List.range len).map q, ⟨some a, cap, by simp, ?_, by simpa using hle, by unfold maxLen at hmx; exact hmx⟩, fun k hk => ?_, ?_⟩
        · refine sees_quad (by simp) (fun hn0 => ⟨a, rfl, ?_, fun i hi => ?_⟩)
          · have := World.block_lt_of_cell? w _ (hq 0 (by simpa using hn0)).1.1
            rwa [add_block] at this
          · have hi' : i < len := by simpa using hi
            have hg : (((List.range len).map q).map RT.cells)[i] = (q i).cells := by simp
            rw [hg]
            exact (hq i hi').1
        · simp only [List.mem_map, List.mem_range] at hk
          obtain ⟨i, hi, rfl⟩ := hk
          have h1 := both_le (hq i hi).2.1 (hq i hi).2.2.1 1
          exact h1
        · have hb := sum_bulk (fun T => 2 * countF m T) (elems.map Prod.fst) q (fun i hi => by
            have hi2 : i < elems.length := by simpa using hi
            have := (hq i (by omega)).2.2.2 hi2
            simpa using this)
          rw [List.length_map, hel, sum_two] at hb
          have hcc : ((List.range len).map q).map (countF (m + 1)) = ((List.range len).map q).map (countF m) := List.map_congr_left fun k hk => by
            simp only [List.mem_map, List.mem_range] at hk
            obtain ⟨i, hi, rfl⟩ := hk
            exact countF_more m _ (hq i hi).2.1
          rw [hcc, hx3]
          show _ + 1 ≤ Rows.uptoBulkAll (elems.map Prod.fst) + _ + 1
          omega
    obtain ⟨ks, hk, hks, hkc⟩ := kids
    refine ⟨.mk c0 ms nm gs c3 ks, rfl, ⟨hm, hk, fun k hk2 => (hks k hk2).1⟩, ⟨hms, hnm2, fun k hk2 => (hks k hk2).2⟩, ?_⟩
    rw [hxx]
    show 2 * (1 + (ks.map (countF n)).sum) ≤ Rows.uptoBulkAll (xs.map Prod.fst) + 1
    obtain ⟨y3, hy3, hkc2⟩ : ∃ y, xs[3]? = some y ∧ 2 * (ks.map (countF n)).sum + 1 ≤ Rows.uptoBulk y.1 := ⟨xs[3], List.getElem?_eq_getElem _, hkc⟩
    clear hkc hf f0 f1 f2 f3 hxx hxl
    have key : ∀ (l : List (DataW H × List MemPlace)), l.length = 4 → l[3]? = some y3 → Rows.uptoBulk y3.1 + 3 ≤ Rows.uptoBulkAll (l.map Prod.fst) := by
      intro l hl h3
      match l, hl, h3 with
      | [x0, x1, x2, x3], _, h3 =>
        have e : x3 = y3 := by simpa using h3
        subst e
        have b0 := bulk_one x0.1
        have b1 := bulk_one x1.1
        have b2 := bulk_one x2.1
        show _ ≤ Rows.uptoBulk x0.1 + (Rows.uptoBulk x1.1 + (Rows.uptoBulk x2.1 + (Rows.uptoBulk x3.1 + 0)))
        omega
    have := key xs hx4 hy3
    omega
/-- An argument of type Route is a tree of no more routes than its bulk. -/
theorem arg_route {r : Reach} {b0 : Nat} {v : Value} {d : DataW H} {p : List MemPlace} (hv : Value.okWide Try.prog w r b0 28 v) (h : DataW.Trod enc Try.prog w base spare held 28 v d p) :
    ∃ (T : RT) (e : Nat), v = T.val ∧ okAt e T w ∧ szAt e T ∧ countF e T ≤ e ∧ 2 * e ≤ Rows.uptoBulk d := by
  obtain ⟨c0, c1, c2, c3, y0, y1, y2, y3, m, rfl, _, _, h0, h1, h2, h3⟩ := Go.Joins.open_agg4 Try.underlying28 (by kernel_rfl) (by kernel_rfl) hv h
  obtain ⟨a0, n0, cp0, rfl, _⟩ := cell_slice Try.underlying22 h0
  obtain ⟨nm, rfl, _⟩ := cell_str Try.underlying9 h1
  obtain ⟨gs, rfl⟩ := cell_bool Try.underlying4 h2
  obtain ⟨a3, n3, cp3, rfl, _⟩ := cell_slice Try.underlying26 h3
  obtain ⟨fuel, hf⟩ := h
  change DataW.trod enc Try.prog w base spare held fuel 28 [.slice a0 n0 cp0, .string nm, .bool gs, .slice a3 n3 cp3] = some (d, p) at hf
  obtain ⟨T, hT, hok, hsz, hc⟩ := route_of fuel _ _ hf
  simp only [List.cons.injEq, and_true] at hT
  obtain ⟨e0, e1, e2, e3⟩ := hT
  obtain ⟨k1, k2, k3⟩ := okAt_cut fuel T (countF fuel T) hok hsz (Nat.le_refl _)
  exact ⟨T, countF fuel T, by unfold RT.val; rw [← e0, ← e1, ← e2, ← e3], k1, k2, by rw [k3]; exact Nat.le_refl _, hc⟩
end
end Go.Proofs.Ytddkkfjgdfdcnaa
