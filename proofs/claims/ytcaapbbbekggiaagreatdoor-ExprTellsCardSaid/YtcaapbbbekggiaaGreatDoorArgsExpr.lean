/- What an argument's reading says of memory: a tree of expressions, however deep. -/
import Derived.Test.YtcaapbbbekggiaaGreatDoorArgsRows
import Derived.Test.YtcaapbbbekggiaaGreatDoorArgsMtc
import Derived.Test.YtcaapbbbekggiaaGreatDoorSzX
import Derived.Test.YtcaapbbbekggiaaGreatDoorBase
import Derived.Test.YtcaapbbbekggiaaGreatDoorRows
import Derived.Lib.SmallJoins
namespace Go.Proofs.YtcaapbbbekggiaaGreatDoor
open Go.RowKit Go.ChangeShapes Go.WideShapes Go.ChangeAt
set_option linter.unusedVariables false
set_option maxRecDepth 100000
theorem sees_quint {w : World} {B len : Nat} {A : Option Addr} {l : List (Value × Value × Value × Value × Value)} (hl : l.length = len)
    (h1 : 0 < len → ∃ a, A = some a ∧ a.block < B ∧ ∀ i (h : i < l.length), w.cell? (a.add (i * 5)) = some l[i].1 ∧ w.cell? (a.add (i * 5 + 1)) = some l[i].2.1 ∧ w.cell? (a.add (i * 5 + 2)) = some l[i].2.2.1 ∧ w.cell? (a.add (i * 5 + 3)) = some l[i].2.2.2.1 ∧ w.cell? (a.add (i * 5 + 4)) = some l[i].2.2.2.2) :
    Sees w B 5 A len (quint l) := by
  refine ⟨by rw [quint_length, hl], fun hn => ?_⟩
  obtain ⟨a, e, hb, hc⟩ := h1 hn
  refine ⟨a, e, hb, fun j u hu => ?_⟩
  have hj : j < len * 5 := by
    have := (List.getElem?_eq_some_iff.1 hu).1
    rw [quint_length, hl] at this; exact this
  have hi : j / 5 < l.length := by omega
  obtain ⟨g0, g1, g2, g3, g4⟩ := quint_get l (j / 5) hi
  obtain ⟨c0, c1, c2, c3, c4⟩ := hc (j / 5) hi
  have h4 : j % 5 = 0 ∨ j % 5 = 1 ∨ j % 5 = 2 ∨ j % 5 = 3 ∨ j % 5 = 4 := by omega
  rcases h4 with h4 | h4 | h4 | h4 | h4
  · have e2 : j / 5 * 5 = j := by omega
    rw [e2] at g0 c0; rw [g0] at hu; injection hu with hu; subst hu; exact c0
  · have e2 : j / 5 * 5 + 1 = j := by omega
    rw [e2] at g1 c1; rw [g1] at hu; injection hu with hu; subst hu; exact c1
  · have e2 : j / 5 * 5 + 2 = j := by omega
    rw [e2] at g2 c2; rw [g2] at hu; injection hu with hu; subst hu; exact c2
  · have e2 : j / 5 * 5 + 3 = j := by omega
    rw [e2] at g3 c3; rw [g3] at hu; injection hu with hu; subst hu; exact c3
  · have e2 : j / 5 * 5 + 4 = j := by omega
    rw [e2] at g4 c4; rw [g4] at hu; injection hu with hu; subst hu; exact c4
theorem okX_le {w : World} {x : XE} {d : Nat} (h : okX d x w) (hs : szX d x) : okX (d + 1) x w ∧ szX (d + 1) x := ⟨okX_more d x h, szX_more d x h hs⟩
section
variable {w : World} {base : Nat} {spare : Nat → Bool} {held : Bool} {H : Type} {enc : TypeId × Value → H}
theorem cellX_mtcs {k : Nat} {v : Value} {x : DataW H × List MemPlace} (h : DataW.trod enc Tryz.prog w base spare held k 22 [v] = some x) : ∃ ms : List Mtc, Slc w 3 v ms.length (mtcs ms) ∧ ∀ m ∈ ms, m.1.size ≤ 9223372036854775807 ∧ m.2.1.size ≤ 9223372036854775807 := by
  obtain ⟨a, n, c, rfl, h4⟩ := cell_slice Tryz.underlying22 h
  obtain ⟨zs, s1, s2, s3, s4⟩ := arg_mtcs Tryz.underlying22 Tryz.underlying57 (by kernel_rfl) rfl rfl rfl (by kernel_rfl) (by kernel_rfl) (by kernel_rfl) Tryz.underlying9 Tryz.underlying9 Tryz.underlying3 h4
  have hl := s1.mtc_len
  exact ⟨zs, ⟨a, c, by rw [hl], by rw [hl]; exact s1, by rw [hl]; exact s2, s3⟩, fun z hz => by have h := s4 z hz; unfold maxLen at h; exact ⟨h.1, h.2.1⟩⟩
theorem cellX_strs {k : Nat} {v : Value} {x : DataW H × List MemPlace} (h : DataW.trod enc Tryz.prog w base spare held k 23 [v] = some x) : ∃ l : List ByteArray, Slc w 1 v l.length (strs l) ∧ ∀ s ∈ l, s.size ≤ maxLen := by
  obtain ⟨a, n, c, rfl, h4⟩ := cell_slice Tryz.underlying23 h
  obtain ⟨zs, s1, s2, s3, s4⟩ := arg_strs Tryz.underlying23 Tryz.underlying9 (by kernel_rfl) h4
  have hl := s1.str_len
  exact ⟨zs, ⟨a, c, by rw [hl], by rw [hl]; exact s1, by rw [hl]; exact s2, s3⟩, s4⟩
/-- The five cells are a tree. -/
def IsX (w : World) (d : Nat) (cs : List Value) : Prop := ∃ X : XE, cs = [.int .i64 X.kd, .int .i64 X.n, X.mv, X.nv, X.kv] ∧ okX d X w ∧ szX d X
theorem expr_of : ∀ (fuel : Nat) (cs : List Value) (x : DataW H × List MemPlace), DataW.trod enc Tryz.prog w base spare held fuel 26 cs = some x → IsX w fuel cs := by
  intro fuel
  induction fuel using Nat.strongRecOn with
  | _ fuel ih =>
    intro cs x h
    obtain ⟨xs, n, rfl, hxx, hlen, hxl, hf⟩ := DataW.trod_struct Tryz.underlying26 h
    have hc5 : Tryz.prog.cellsOf 26 = 5 := by kernel_rfl
    rw [hc5] at hlen
    obtain ⟨c0, c1, c2, c3, c4, rfl⟩ : ∃ c0 c1 c2 c3 c4, cs = [c0, c1, c2, c3, c4] := by
      match cs, hlen with
      | [c0, c1, c2, c3, c4], _ => exact ⟨c0, c1, c2, c3, c4, rfl⟩
    have hx5 : xs.length = 5 := by rw [hxl]; rfl
    have f0 := hf 0 _ rfl
    change DataW.trod enc Tryz.prog w base spare held n 3 (List.take (Tryz.prog.cellsOf 3) (List.drop 0 [c0, c1, c2, c3, c4])) = xs[0]? at f0
    rw [show Tryz.prog.cellsOf 3 = 1 by kernel_rfl, List.getElem?_eq_getElem (by omega)] at f0
    change DataW.trod enc Tryz.prog w base spare held n 3 [c0] = _ at f0
    have f1 := hf 1 _ rfl
    change DataW.trod enc Tryz.prog w base spare held n 3 (List.take (Tryz.prog.cellsOf 3) (List.drop 1 [c0, c1, c2, c3, c4])) = xs[1]? at f1
    rw [show Tryz.prog.cellsOf 3 = 1 by kernel_rfl, List.getElem?_eq_getElem (by omega)] at f1
    change DataW.trod enc Tryz.prog w base spare held n 3 [c1] = _ at f1
    have f2 := hf 2 _ rfl
    change DataW.trod enc Tryz.prog w base spare held n 22 (List.take (Tryz.prog.cellsOf 22) (List.drop 2 [c0, c1, c2, c3, c4])) = xs[2]? at f2
    rw [show Tryz.prog.cellsOf 22 = 1 by kernel_rfl, List.getElem?_eq_getElem (by omega)] at f2
    change DataW.trod enc Tryz.prog w base spare held n 22 [c2] = _ at f2
    have f3 := hf 3 _ rfl
    change DataW.trod enc Tryz.prog w base spare held n 23 (List.take (Tryz.prog.cellsOf 23) (List.drop 3 [c0, c1, c2, c3, c4])) = xs[3]? at f3
    rw [show Tryz.prog.cellsOf 23 = 1 by kernel_rfl, List.getElem?_eq_getElem (by omega)] at f3
    change DataW.trod enc Tryz.prog w base spare held n 23 [c3] = _ at f3
    have f4 := hf 4 _ rfl
    change DataW.trod enc Tryz.prog w base spare held n 24 (List.take (Tryz.prog.cellsOf 24) (List.drop 4 [c0, c1, c2, c3, c4])) = xs[4]? at f4
    rw [show Tryz.prog.cellsOf 24 = 1 by kernel_rfl, List.getElem?_eq_getElem (by omega)] at f4
    change DataW.trod enc Tryz.prog w base spare held n 24 [c4] = _ at f4
    obtain ⟨kd, rfl, _⟩ := cell_int Tryz.underlying3 f0
    obtain ⟨nn, rfl, hnn⟩ := cell_int Tryz.underlying3 f1
    obtain ⟨ms, hm, hms⟩ := cellX_mtcs f2
    obtain ⟨ns, hn1, hns⟩ := cellX_strs f3
    have hI : I64 nn := wf_of hnn
    have kids : ∃ ks : List XE, Slc w 5 c4 ks.length (kcells ks) ∧ ∀ k ∈ ks, okX n k w ∧ szX n k := by
      rcases DataW.trod_slice Tryz.underlying24 f4 with ⟨hcs, hx3⟩ | ⟨a, len, cap, elems, rest, m, hn, hcs, hx3, _, hle, hmx, hel, hget, _⟩
      · simp at hcs; subst hcs
        exact ⟨[], ⟨none, 0, rfl, Sees.nil, Nat.le_refl _, by simp⟩, fun k hk => absurd hk List.not_mem_nil⟩
      · simp at hcs; subst hcs; subst hn
        rw [hc5] at hget
        have each : ∀ i, i < len → ∃ X : XE, (w.cell? (a.add (i * 5)) = some (.int .i64 X.kd) ∧ w.cell? (a.add (i * 5 + 1)) = some (.int .i64 X.n) ∧ w.cell? (a.add (i * 5 + 2)) = some X.mv ∧ w.cell? (a.add (i * 5 + 3)) = some X.nv ∧ w.cell? (a.add (i * 5 + 4)) = some X.kv) ∧ okX m X w ∧ szX m X := by
          intro i hi
          have h1 := hget i hi
          rw [List.getElem?_eq_getElem (by omega)] at h1
          cases hcc : w.cells? base (a.add (i * 5)) 5 with
          | none => rw [hcc] at h1; cases h1
          | some cs' =>
            rw [hcc] at h1
            obtain ⟨_, hlen', hcell⟩ := World.cells?_some hcc
            obtain ⟨X, hX, hok, hsz⟩ := ih m (by omega) cs' _ h1
            subst hX
            have e0 := hcell 0 (by omega)
            have e1 := hcell 1 (by omega)
            have e2 := hcell 2 (by omega)
            have e3 := hcell 3 (by omega)
            have e4 := hcell 4 (by omega)
            rw [add_add] at e0 e1 e2 e3 e4
            exact ⟨X, ⟨by simpa using e0, by simpa using e1, by simpa using e2, by simpa using e3, by simpa using e4⟩, hok, hsz⟩
        have : Inhabited XE := ⟨.mk 0 0 (.slice none 0 0) [] (.slice none 0 0) [] (.slice none 0 0) []⟩
        obtain ⟨q, hq⟩ := Deep.choose_lt each
        refine ⟨(List.range len).map q, ⟨some a, cap, by simp, ?_, by simpa using hle, by unfold maxLen at hmx; exact hmx⟩, fun k hk => ?_⟩
        · unfold kcells
          refine sees_quint (by simp) (fun hn0 => ⟨a, rfl, ?_, fun i hi => ?_⟩)
          · have := World.block_lt_of_cell? w _ (hq 0 (by simpa using hn0)).1.1
            rwa [add_block] at this
          · have hi' : i < len := by simpa using hi
            have hg : (((List.range len).map q).map XE.cells)[i] = (q i).cells := by simp
            rw [hg]
            exact (hq i hi').1
        · simp only [List.mem_map, List.mem_range] at hk
          obtain ⟨i, hi, rfl⟩ := hk
          exact okX_le (hq i hi).2.1 (hq i hi).2.2
    obtain ⟨ks, hk, hks⟩ := kids
    exact ⟨.mk kd nn c2 ms c3 ns c4 ks, rfl, ⟨hm, hn1, hk, fun k hk2 => (hks k hk2).1⟩, ⟨hI, hms, hns, fun k hk2 => (hks k hk2).2⟩⟩
/-- An argument of type Expr is a tree. -/
theorem arg_expr {r : Reach} {b0 : Nat} {v : Value} {d : DataW H} {p : List MemPlace} (hv : Value.okWide Tryz.prog w r b0 26 v) (h : DataW.Trod enc Tryz.prog w base spare held 26 v d p) :
    ∃ (X : XE) (e : Nat), v = X.val ∧ okX e X w ∧ szX e X := by
  obtain ⟨fuel, hf⟩ := h
  obtain ⟨X, hX, hok, hsz⟩ := expr_of fuel _ _ hf
  refine ⟨X, fuel, ?_, hok, hsz⟩
  obtain ⟨cs, rfl, hcs⟩ := okWide_struct Tryz.underlying26 hv
  obtain ⟨A1, c1, A2, c2, A3, c3, e1, e2, e3⟩ := okX_forms hok
  rw [e1, e2, e3] at hX
  unfold XE.val
  rw [e1, e2, e3]
  simp only [Value.cells] at hX
  congr 1
  exact Array.toList_inj.1 (by simpa using hX)
end
end Go.Proofs.YtcaapbbbekggiaaGreatDoor
