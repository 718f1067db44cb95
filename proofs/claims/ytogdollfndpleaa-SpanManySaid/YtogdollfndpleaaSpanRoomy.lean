/- klaxonbook at spans: Roomy, Intact. -/
import Derived.Test.YtogdollfndpleaaSpanAns
import Derived.Laws.CopyOwn
import Derived.Deep.QuietTactic
import Derived.BigQuiet
namespace Go.Proofs.Ytogdollfndpleaa
open Go.ChangeShapes Go.WideShapes Go.ChangeAt Go.RowKit
set_option linter.unusedVariables false
set_option maxRecDepth 100000
theorem run_copy_two {P : Program} (w : World) (dT sT ty elem : TypeId) (g o dLen dCap : Nat) (a : Addr) (sLen sCap : Nat) (cur : Array Value) (t : TypeId) (cs : List Value)
    (hu : P.underlying dT = some (.slice elem)) (hs : (P.info? elem).map (·.size) = some 2)
    (hg : w.heap[g]? = some (.cells cur t (0, 0))) (hn : cs.length = Nat.min sLen dLen * 2)
    (hsrc : ∀ j v, cs[j]? = some v → w.cell? (a.add j) = some v) (hfit : o + cs.length ≤ cur.size) (h1 : ∀ v ∈ cs, v.oneCell' = true) :
    (Builtin.copy_ #[dT, sT] ty #[.slice (some ⟨g, o, none⟩) dLen dCap, .slice (some a) sLen sCap]).run P w =
      .ok (goInt (Nat.min sLen dLen)) (w.setRow g (cur.toList.take o ++ cs ++ cur.toList.drop (o + cs.length)).toArray) := by
  have hl := run_loadCells_list (P := P) w a cs hsrc
  have hst := run_storeCells_at P g o t cs 0 cur w hg (by simpa using hfit) h1
  cases hq : P.info? elem with
  | none => simp [hq] at hs
  | some i =>
    have hi : i.size = 2 := by simpa [hq] using hs
    simp [Builtin.copy_, run_underlying hu, Builtin.lenOf, Builtin.firstCells, sizeOf, typeInfo, hq, hi, ← hn, hl, hst]
theorem run_copy_two_none {P : Program} (w : World) (dT sT ty elem : TypeId) (d a : Option Addr) (dLen dCap sLen sCap : Nat) (hu : P.underlying dT = some (.slice elem)) (hs : (P.info? elem).map (·.size) = some 2) (hn : Nat.min sLen dLen = 0) :
    (Builtin.copy_ #[dT, sT] ty #[.slice d dLen dCap, .slice a sLen sCap]).run P w = .ok (goInt 0) w := by
  cases hq : P.info? elem with
  | none => simp [hq] at hs
  | some i =>
    have hl : ∀ (x : Addr), (loadCells x 0).run P w = .ok #[] w := fun x => by simpa using run_loadCells_list (P := P) w x [] (by simp)
    cases d <;> cases a <;> simp [Builtin.copy_, run_underlying hu, Builtin.lenOf, Builtin.firstCells, sizeOf, typeInfo, hq, hn, storeCells, hl]
/-- A copy of pairs to the beginning of a block. -/
theorem wpList_copy_pairs {P : Program} {w : World} {ops : Array Oper} {rest : List Oper} {o : Oper} {a : Act} {Q : Exit → Act → World → Prop} (hgd : o.guard = none) (d s : Operand) (dT sT : TypeId)
    (ho : o.op = .call { callee := .builtin .copy, args := #[d, s], argTypes := #[dT, sT] }) (elem : TypeId) (hu : P.underlying dT = some (.slice elem)) (hsz : (P.info? elem).map (·.size) = some 2)
    (g dLen dCap : Nat) (sp : Option Addr) (sLen sCap : Nat) (hd : a.eval d = .slice (some ⟨g, 0, none⟩) dLen dCap) (hs : a.eval s = .slice sp sLen sCap) (hle : sLen ≤ dLen)
    (cur : List Value) (t : TypeId) (hg : Blk w g t cur) (cs : List Value) (B : Nat) (hS : Sees w B 2 sp sLen cs) (hfit : cs.length ≤ cur.length) (h1 : ∀ v ∈ cs, v.oneCell' = true)
    (h : ∀ w', Blk w' g t (cs ++ cur.drop cs.length) → (∀ k, k ≠ g → w'.heap[k]? = w.heap[k]?) → w'.heap.size = w.heap.size → w'.os = w.os → w'.tape = w.tape → w'.output = w.output → wpList P ops Q rest (a.put o.dst (goInt sLen)) w') :
    wpList P ops Q (o :: rest) a w := by
  have hmin : Nat.min sLen dLen = sLen := Nat.min_eq_left hle
  refine wpList_plain hgd fun K hK => ?_
  rcases Nat.eq_zero_or_pos sLen with h0 | h0
  · subst h0
    have hcs : cs = [] := List.eq_nil_of_length_eq_zero (by have := hS.len; omega)
    subst hcs
    have hrun := run_copy_two_none (P := P) w dT sT o.type elem (some ⟨g, 0, none⟩) sp dLen dCap 0 sCap hu hsz hmin
    unfold Oper.wp
    simp [execOp, ho, resolve, invoke, builtin, hd, hs, hrun, Result.andThen]
    exact hK _ _ (h w (by simpa using hg) (fun _ _ => rfl) rfl rfl rfl rfl)
  · obtain ⟨ad, rfl, _, hsrc⟩ := hS.at_ h0
    have hrun := run_copy_two (P := P) w dT sT o.type elem g 0 dLen dCap ad sLen sCap cur.toArray t cs hu hsz hg (by rw [hmin]; exact hS.len) hsrc (by simpa using hfit) h1
    rw [hmin] at hrun
    unfold Oper.wp
    simp [execOp, ho, resolve, invoke, builtin, hd, hs, hrun, Result.andThen]
    refine hK _ _ (h _ ?_ (fun k hk => setRow_other w g k _ hk) (by simp [World.setRow]) rfl rfl rfl)
    have := setRow_heap w g cur.toArray (cs ++ cur.drop cs.length).toArray t (0, 0) hg
    exact Blk.mk (by simpa using this)
theorem smps_same (m : Nat) : smps (List.replicate m (0, 0)) = List.replicate (m * 2) (Value.int .i64 0) := by
  induction m with
  | zero => rfl
  | succ m ih =>
    rw [List.replicate_succ, show (m + 1) * 2 = m * 2 + 1 + 1 by omega, List.replicate_succ, List.replicate_succ, ← ih]
    simp [smps]
theorem made_pairs (m : Nat) : (madeCells #[Value.int .i64 0, Value.int .i64 0] (m * 2)).toList = smps (List.replicate m (0, 0)) := by
  rw [smps_same]
  apply List.ext_getElem?
  intro j
  by_cases hj : j < m * 2
  · rw [List.getElem?_replicate, if_pos hj, Array.getElem?_toList]
    have h1 : j < (madeCells #[Value.int .i64 0, Value.int .i64 0] (m * 2)).size := by rw [size_madeCells]; exact hj
    rw [Array.getElem?_eq_getElem h1]
    simp only [madeCells, Array.getElem_map, Array.getElem_range]
    rcases Nat.mod_two_eq_zero_or_one j with h | h <;> simp [h]
  · rw [List.getElem?_eq_none (by simp [size_madeCells]; omega), List.getElem?_eq_none (by simp; omega)]
/-- A list with 80 more places behind it, j of them marked. -/
def filledP (zs : List (Int × Int)) (mark : Int × Int) (j : Nat) : List Value := smps (zs ++ List.replicate j mark) ++ smps (List.replicate (80 - j) (0, 0))
theorem filledP_len (zs : List (Int × Int)) (mark : Int × Int) (j : Nat) (hj : j ≤ 80) : (filledP zs mark j).length = (zs.length + 80) * 2 := by
  unfold filledP; rw [List.length_append, smps_length, smps_length, List.length_append, List.length_replicate, List.length_replicate]; omega
theorem filledP_end (zs : List (Int × Int)) (mark : Int × Int) : filledP zs mark 80 = smps (zs ++ List.replicate 80 mark) := by unfold filledP; simp [smps]
theorem filledP_step (zs : List (Int × Int)) (mark : Int × Int) (n j : Nat) (h : zs.length = n) (hj : j < 80) :
    (filledP zs mark j)[(n + j) * 2]? = some (.int .i64 0) ∧ (filledP zs mark j)[(n + j) * 2 + 1]? = some (.int .i64 0) ∧ ((filledP zs mark j).set ((n + j) * 2) (.int .i64 mark.1)).set ((n + j) * 2 + 1) (.int .i64 mark.2) = filledP zs mark (j + 1) := by
  subst h
  unfold filledP
  have hl : (smps (zs ++ List.replicate j mark)).length = (zs.length + j) * 2 := by rw [smps_length, List.length_append, List.length_replicate]
  have e : smps (List.replicate (80 - j) (0, 0)) = .int .i64 0 :: .int .i64 0 :: smps (List.replicate (80 - (j + 1)) (0, 0)) := by
    rw [show 80 - j = (80 - (j + 1)) + 1 by omega, List.replicate_succ]; simp [smps]
  rw [e]
  refine ⟨?_, ?_, ?_⟩
  · rw [List.getElem?_append_right (by omega), hl, Nat.sub_self]; rfl
  · rw [List.getElem?_append_right (by omega), hl, show (zs.length + j) * 2 + 1 - (zs.length + j) * 2 = 1 by omega]; rfl
  · rw [List.set_append_right _ _ (by omega), hl, Nat.sub_self, List.set_cons_zero, List.set_append_right _ _ (by omega), hl, show (zs.length + j) * 2 + 1 - (zs.length + j) * 2 = 1 by omega, List.set_cons_succ, List.set_cons_zero]
    rw [List.replicate_succ', ← List.append_assoc, smps_append (zs ++ List.replicate j mark), List.append_assoc]
    simp [smps]
end Go.Proofs.Ytogdollfndpleaa
