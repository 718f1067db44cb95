/- Mathematics of RouteGoes. -/
import Derived.Test.YtddkkfjgdfdcnaaRouteAll
import Derived.Test.YtddkkfjgdfdcnaaOwnNe
namespace Go.Proofs.Ytddkkfjgdfdcnaa
open Go.ChangeShapes Go.WideShapes Go.ChangeAt Go.RowKit Go.Sort Go.Lib
set_option linter.unusedVariables false
set_option linter.unusedSimpArgs false
set_option maxRecDepth 100000
/-- The i'th name. -/
def nmB (i : Nat) : ByteArray := ⟨#[UInt8.ofNat (97 + i)]⟩
/-- Names with what goes on. -/
def gl (zs : List Bool) : Nat → List (ByteArray × Bool)
  | 0 => []
  | i + 1 => gl zs i ++ [(nmB i, zs.getD i false)]
theorem gl_len (zs : List Bool) : ∀ i, (gl zs i).length = i
  | 0 => rfl
  | i + 1 => by rw [gl, List.length_append, gl_len zs i]; rfl
theorem gl_fst (zs : List Bool) : ∀ i, (gl zs i).map Prod.fst = (List.range i).map nmB
  | 0 => rfl
  | i + 1 => by rw [gl, List.map_append, gl_fst zs i, List.range_succ, List.map_append]; rfl
def takeG : List (ByteArray × Bool) → List ByteArray
  | [] => []
  | p :: r => p.1 :: (if p.2 = true then takeG r else [])
theorem takeG_push (l : List (ByteArray × Bool)) (p : ByteArray × Bool) : takeG (l ++ [p]) = takeG l ++ (if l.all Prod.snd = true then [p.1] else []) := by
  induction l with
  | nil => simp [takeG]
  | cons x l ih =>
    obtain ⟨a, b⟩ := x
    cases b
    · simp [takeG]
    · simp only [List.cons_append, takeG, if_true, List.all_cons, Bool.true_and]
      rw [ih]
theorem all_push (l : List (ByteArray × Bool)) (p : ByteArray × Bool) : (l ++ [p]).all Prod.snd = (l.all Prod.snd && p.2) := by simp
theorem takeG_prefix (l : List (ByteArray × Bool)) : takeG l <+: l.map Prod.fst := by
  induction l with
  | nil => simp [takeG]
  | cons x l ih =>
    unfold takeG
    rw [List.map_cons]
    split
    · exact (List.prefix_cons_inj _).2 ih
    · exact ⟨l.map Prod.fst, rfl⟩
theorem takeG_len (l : List (ByteArray × Bool)) : (takeG l).length ≤ l.length := by
  have := (takeG_prefix l).length_le; simpa using this
def mkG (p : ByteArray × Bool) : RT := .mk (.slice none 0 0) [] p.1 p.2 (.slice none 0 0) []
theorem toF_mkG (l : List Lbl) (d : Nat) (p : ByteArray × Bool) : toF l (d + 1) (mkG p) = [p.1] := by
  simp [toF, mkG, RT.kids, goKids, RT.nm]
theorem goKids_mkG (l : List Lbl) (d : Nat) (L : List (ByteArray × Bool)) : goKids (toF l (d + 1)) l (L.map mkG) = takeG L := by
  induction L with
  | nil => rfl
  | cons p L ih =>
    rw [List.map_cons, goKids_some (show allF l (mkG p).ms = true from rfl), toF_mkG, ih]
    rfl
/-- What is wanted. -/
def wantG (L : List (ByteArray × Bool)) : List ByteArray := if takeG L = [] then [⟨#[114, 111, 111, 116]⟩] else takeG L
def rootT (k : Value) (L : List (ByteArray × Bool)) : RT := .mk (.slice none 0 0) [] ⟨#[114, 111, 111, 116]⟩ false k (L.map mkG)
theorem toF_root (l : List Lbl) (k : Value) (L : List (ByteArray × Bool)) : toF l 2 (rootT k L) = wantG L := by
  show (if goKids (toF l 1) l (L.map mkG) = [] then [_] else goKids (toF l 1) l (L.map mkG)) = _
  rw [goKids_mkG]; rfl
theorem count_mkG (d : Nat) (p : ByteArray × Bool) : countF (d + 1) (mkG p) = 1 := by simp [countF, mkG, RT.kids]
theorem count_root (k : Value) (L : List (ByteArray × Bool)) : countF 2 (rootT k L) = 1 + L.length := by
  show 1 + ((L.map mkG).map (countF 1)).sum = _
  congr 1
  induction L with
  | nil => rfl
  | cons p L ih => rw [List.map_cons, List.map_cons, List.sum_cons, ih, count_mkG, List.length_cons]; omega
theorem nmB_word {i : Nat} (h : i < 8) : wordF (nmB i) = true := by
  match i, h with
  | 0, _ => decide
  | 1, _ => decide
  | 2, _ => decide
  | 3, _ => decide
  | 4, _ => decide
  | 5, _ => decide
  | 6, _ => decide
  | 7, _ => decide
theorem gl_words (zs : List Bool) : ∀ i, i ≤ 8 → ∀ p ∈ gl zs i, wordF p.1 = true
  | 0, _, p, hp => absurd hp List.not_mem_nil
  | i + 1, h, p, hp => by
    rw [gl, List.mem_append] at hp
    rcases hp with hp | hp
    · exact gl_words zs i (by omega) p hp
    · rw [List.mem_singleton] at hp; subst hp; exact nmB_word (by omega)
theorem right_root (k : Value) (L : List (ByteArray × Bool)) (hw : ∀ p ∈ L, wordF p.1 = true) (n : Nat) (hn : n + 1 ≤ 8) : rightF 2 n (rootT k L) = true := by
  show (decide (n ≤ 8) && (wordF ⟨#[114, 111, 111, 116]⟩ && (rightM [] && (L.map mkG).all (rightF 1 (n + 1))))) = true
  rw [decide_eq_true (by omega), show wordF ⟨#[114, 111, 111, 116]⟩ = true by decide, show rightM [] = true by decide, Bool.true_and, Bool.true_and, Bool.true_and, List.all_eq_true]
  intro r hr
  obtain ⟨p, hp, rfl⟩ := List.mem_map.1 hr
  show (decide (n + 1 ≤ 8) && (wordF p.1 && (rightM [] && true))) = true
  rw [decide_eq_true hn, hw p hp, show rightM [] = true by decide]; rfl
/-- One floor more: what is known of the tree stays. -/
structure UpOk (j : Nat) (W : List ByteArray) (c : Nat) (T : RT) : Prop where
  ms : T.ms = []
  goes : T.goes = false
  to_ : toF [] (2 + j) T = W
  right : ∀ n, n + j + 1 ≤ 8 → rightF (2 + j) n T = true
  count : countF (2 + j) T = c + j
theorem UpOk.start {k : Value} {L : List (ByteArray × Bool)} (hw : ∀ p ∈ L, wordF p.1 = true) : UpOk 0 (wantG L) (1 + L.length) (rootT k L) :=
  ⟨rfl, rfl, toF_root [] k L, fun n hn => right_root k L hw n (by omega), count_root k L⟩
theorem UpOk.up {j : Nat} {W : List ByteArray} {c : Nat} {T : RT} (h : UpOk j W c T) (hW : W ≠ []) (k : Value) : UpOk (j + 1) W c (.mk (.slice none 0 0) [] ⟨#[117, 112]⟩ false k [T]) := by
  have hg : goKids (toF [] (2 + j)) [] [T] = W := by
    rw [goKids_some (by rw [h.ms]; rfl), h.goes, if_neg (by simp), List.append_nil, h.to_]
  refine ⟨rfl, rfl, ?_, fun n hn => ?_, ?_⟩
  · show (if goKids (toF [] (2 + j)) [] [T] = [] then _ else goKids (toF [] (2 + j)) [] [T]) = W
    rw [hg, if_neg hW]
  · show (decide (n ≤ 8) && (wordF ⟨#[117, 112]⟩ && (rightM [] && [T].all (rightF (2 + j) (n + 1))))) = true
    rw [decide_eq_true (by omega), show wordF ⟨#[117, 112]⟩ = true by decide, show rightM [] = true by decide, List.all_cons, h.right (n + 1) (by omega)]; rfl
  · show 1 + ([T].map (countF (2 + j))).sum = _
    simp [h.count]; omega
theorem wantG_ne (L : List (ByteArray × Bool)) : wantG L ≠ [] := by
  unfold wantG
  split
  · simp
  · next h => exact h
theorem names_rise : Rises (bts ((List.range 8).map nmB)) := by unfold Rises; decide
theorem want_rises (zs : List Bool) {i : Nat} (hi : i ≤ 8) : Rises (bts (wantG (gl zs i))) := by
  unfold wantG
  split
  · simp [bts, Rises]
  · have h1 := takeG_prefix (gl zs i)
    rw [gl_fst] at h1
    have h2 : ((List.range i).map nmB).Sublist ((List.range 8).map nmB) := (List.range_sublist.2 hi).map _
    exact List.Pairwise.sublist ((h1.sublist.trans h2).map _) names_rise
/-- Sent twice, sorted, each once: the same. -/
theorem want_twice {W : List ByteArray} (h : Rises (bts W)) : txs (sortC (bts (W ++ (W ++ [])))) = W := by
  have h2 := sortC_ok (bts (W ++ (W ++ [])))
  have e : sortC (bts (W ++ (W ++ []))) = bts W := rises_eq h2.2 h (fun x => by
    rw [h2.1]; unfold bts; rw [List.append_nil, List.map_append, List.mem_append, or_self])
  rw [e, txs_bts]
/-- Too deep. -/
structure LowOk (j : Nat) (T : RT) : Prop where
  wrong : ∀ n, 8 < n + j → rightF (j + 1) n T = false
  count : countF (j + 1) T = j + 1
theorem LowOk.start : LowOk 0 (.mk (.slice none 0 0) [] ⟨#[120]⟩ false (.slice none 0 0) []) :=
  ⟨fun n hn => by show (decide (n ≤ 8) && _) = false; rw [decide_eq_false (by omega)]; rfl, rfl⟩
theorem LowOk.up {j : Nat} {T : RT} (h : LowOk j T) (k : Value) : LowOk (j + 1) (.mk (.slice none 0 0) [] ⟨#[120]⟩ false k [T]) := by
  refine ⟨fun n hn => ?_, ?_⟩
  · show (decide (n ≤ 8) && (wordF ⟨#[120]⟩ && (rightM [] && [T].all (rightF (j + 1) (n + 1))))) = false
    rw [List.all_cons, h.wrong (n + 1) (by omega), Bool.false_and, Bool.and_false, Bool.and_false, Bool.and_false]
  · show 1 + ([T].map (countF (j + 1))).sum = _
    simp [h.count]; omega
/-- Too many. -/
def wideK (k : Nat) : List RT := (List.range 16).map fun j => .mk (.slice none 0 0) [] (if j < k then ⟨#[121]⟩ else ⟨#[]⟩) false (.slice none 0 0) []
def wideT (v : Value) : RT := .mk (.slice none 0 0) [] ⟨#[120]⟩ false v (wideK 16)
theorem wide_count (v : Value) : countF 2 (wideT v) = 17 := by
  show 1 + ((wideK 16).map (countF 1)).sum = 17
  decide
theorem wide_right (v : Value) : rightT 2 (wideT v) = false := by
  unfold rightT
  rw [wide_count, decide_eq_false (by omega), Bool.and_false, Bool.and_false]
theorem wide_set {k : Nat} (h : k < 16) : (quad ((wideK k).map RT.cells)).set (k * 4 + 1) (.string ⟨#[121]⟩) = quad ((wideK (k + 1)).map RT.cells) := by
  match k, h with
  | 0, _ => rfl
  | 1, _ => rfl
  | 2, _ => rfl
  | 3, _ => rfl
  | 4, _ => rfl
  | 5, _ => rfl
  | 6, _ => rfl
  | 7, _ => rfl
  | 8, _ => rfl
  | 9, _ => rfl
  | 10, _ => rfl
  | 11, _ => rfl
  | 12, _ => rfl
  | 13, _ => rfl
  | 14, _ => rfl
  | 15, _ => rfl
  | k + 16, h => exact absurd h (by omega)
theorem wide_zero : (madeCells #[.slice none 0 0, .string ⟨#[]⟩, .bool false, .slice none 0 0] (16 * 4)).toList = quad ((wideK 0).map RT.cells) := by kernel_rfl
end Go.Proofs.Ytddkkfjgdfdcnaa
