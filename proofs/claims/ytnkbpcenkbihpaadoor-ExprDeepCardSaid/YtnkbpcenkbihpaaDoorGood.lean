/- Expressions that can be printed; their texts. -/
import Derived.Test.YtnkbpcenkbihpaaDoorBase
import Derived.Lib.ItoaLen
namespace Go.Proofs.YtnkbpcenkbihpaaDoor
open Go.ChangeShapes Go.WideShapes Go.ChangeAt Go.RowKit
set_option linter.unusedVariables false
set_option maxRecDepth 100000
/-- Signs of two, words of one. -/
def opsL : List ByteArray := [⟨#[43]⟩, ⟨#[45]⟩, ⟨#[42]⟩, ⟨#[47]⟩, ⟨#[37]⟩, ⟨#[61, 61]⟩, ⟨#[33, 61]⟩, ⟨#[60]⟩, ⟨#[60, 61]⟩, ⟨#[62]⟩, ⟨#[62, 61]⟩, ⟨#[97, 110, 100]⟩, ⟨#[111, 114]⟩, ⟨#[117, 110, 108, 101, 115, 115]⟩]
def aggsL : List ByteArray := [⟨#[115, 117, 109]⟩, ⟨#[109, 105, 110]⟩, ⟨#[109, 97, 120]⟩, ⟨#[99, 111, 117, 110, 116]⟩]
/-- Names with commas between. -/
def joinN : List ByteArray → List UInt8
  | [] => []
  | x :: l => x.data.toList ++ (if l.isEmpty then [] else 44 :: joinN l)
theorem joinN_snoc (l : List ByteArray) (x : ByteArray) : joinN (l ++ [x]) = joinN l ++ (if l.isEmpty then x.data.toList else 44 :: x.data.toList) := by
  induction l with
  | nil => simp [joinN]
  | cons y l ih =>
    rw [List.cons_append, joinN, joinN, ih]
    cases l <;> simp [joinN]
/-- An expression's text. -/
def printX : Nat → XE → List UInt8
  | 0, _ => []
  | d + 1, x =>
    if x.kd = 1 then Lib.itoa x.n
    else if x.kd = 2 then 123 :: (joinM x.ms ++ (125 :: 91 :: (Lib.itoa x.n ++ [93])))
    else if 17 ≤ x.kd then (aggsL.getD (x.kd - 17).toNat ⟨#[]⟩).data.toList ++ ([32, 98, 121, 32, 40] ++ (joinN x.ns ++ ([41, 32, 40] ++ ((x.kids.head?.map (printX d)).getD [] ++ [41]))))
    else 40 :: ((x.kids.head?.map (printX d)).getD [] ++ (32 :: ((opsL.getD (x.kd - 3).toNat ⟨#[]⟩).data.toList ++ (32 :: ((x.kids[1]?.map (printX d)).getD [] ++ [41])))))
/-- What can be printed: of so many floors, with few matchers and names, short ones. -/
def goodX : Nat → XE → Prop
  | 0, _ => False
  | d + 1, x => 1 ≤ x.kd ∧ x.kd ≤ 20 ∧ I64 x.n ∧ (x.kd = 2 → x.ms.length ≤ 6 ∧ ∀ m ∈ x.ms, m.1.size ≤ 24 ∧ m.2.1.size ≤ 24 ∧ 1 ≤ m.2.2 ∧ m.2.2 ≤ 4)
      ∧ (17 ≤ x.kd → x.ns.length ≤ 6 ∧ (∀ s ∈ x.ns, s.size ≤ 24) ∧ ∃ a, x.kids = [a] ∧ goodX d a)
      ∧ (3 ≤ x.kd → x.kd ≤ 16 → ∃ a b, x.kids = [a, b] ∧ goodX d a ∧ goodX d b)
theorem goodX_more : ∀ (d : Nat) (x : XE), goodX d x → goodX (d + 1) x
  | 0, _, h => h.elim
  | d + 1, x, h => ⟨h.1, h.2.1, h.2.2.1, h.2.2.2.1, fun h16 => by
      obtain ⟨h1, h2, a, e, h3⟩ := h.2.2.2.2.1 h16
      exact ⟨h1, h2, a, e, goodX_more d a h3⟩, fun h3 h15 => by
      obtain ⟨a, b, e, h1, h2⟩ := h.2.2.2.2.2 h3 h15
      exact ⟨a, b, e, goodX_more d a h1, goodX_more d b h2⟩⟩
theorem keepNum_good {x : XE} {d : Nat} {hi : Int} (hhi : hi ≤ 9) (h : x.kd = 1 ∧ -3 ≤ x.n ∧ x.n ≤ hi ∧ x.ms = [] ∧ x.ns = [] ∧ x.kids = []) : goodX (d + 1) x := by
  obtain ⟨h1, h2, h3, h4, h5, h6⟩ := h
  exact ⟨by omega, by omega, by unfold I64; omega, fun e => absurd e (by omega), fun e => absurd e (by omega), fun e => absurd e (by omega)⟩
theorem keepN_pos {d : Nat} {x : XE} (h : keepN d x) : 0 < d := by
  cases d with
  | zero => exact h.elim
  | succ d => omega
theorem keepV_pos {d : Nat} {x : XE} (h : keepV d x) : 0 < d := by
  cases d with
  | zero => exact h.elim
  | succ d => omega
theorem keepN_good : ∀ (d : Nat) (x : XE), keepN d x → goodX d x
  | 0, _, h => h.elim
  | d + 1, x, h => by
    rcases h with h | ⟨h1, h2, h3, h4, h5, a, b, hk, ha, hb⟩
    · exact keepNum_good (by omega) h
    · have hd := keepN_pos hb
      obtain ⟨d', rfl⟩ : ∃ d', d = d' + 1 := ⟨d - 1, by omega⟩
      exact ⟨by omega, by omega, by unfold I64; omega, fun e => absurd e (by omega), fun e => absurd e (by omega), fun _ _ => ⟨a, b, hk, keepNum_good (by omega) ha, keepN_good _ b hb⟩⟩
theorem keepName_size : ∀ a, a < 4 → (keepNames.getD a ⟨#[]⟩).size ≤ 4 := by
  intro a ha
  match a, ha with
  | 0, _ => decide
  | 1, _ => decide
  | 2, _ => decide
  | 3, _ => decide
theorem keepValue_size : ∀ a, a < 8 → (keepValues.getD a ⟨#[]⟩).size ≤ 3 := by
  intro a ha
  match a, ha with
  | 0, _ => decide
  | 1, _ => decide
  | 2, _ => decide
  | 3, _ => decide
  | 4, _ => decide
  | 5, _ => decide
  | 6, _ => decide
  | 7, _ => decide
theorem keepMs_good {ms : List Mtc} (h : keepMs ms) : ms.length ≤ 6 ∧ ∀ m ∈ ms, m.1.size ≤ 24 ∧ m.2.1.size ≤ 24 ∧ 1 ≤ m.2.2 ∧ m.2.2 ≤ 4 := by
  obtain ⟨c, _, h⟩ := h
  have h0 : (⟨#[110, 97, 109, 101]⟩ : ByteArray).size ≤ 24 := by decide
  have h1 : (⟨#[c]⟩ : ByteArray).size ≤ 24 := by show #[c].size ≤ 24; simp
  rcases h with rfl | ⟨a, q, kd, ha, hq, hk1, hk4, rfl⟩
  · refine ⟨by simp, fun m hm => ?_⟩
    rw [List.mem_singleton] at hm; subst hm
    exact ⟨h0, h1, Int.le_refl _, (by decide : (1 : Int) ≤ 4)⟩
  · refine ⟨by simp, fun m hm => ?_⟩
    rw [List.mem_cons, List.mem_singleton] at hm
    rcases hm with rfl | rfl
    · exact ⟨h0, h1, Int.le_refl _, (by decide : (1 : Int) ≤ 4)⟩
    · have h2 := keepName_size a (by omega)
      have h3 := keepValue_size q (by omega)
      exact ⟨by show (keepNames.getD a ⟨#[]⟩).size ≤ 24; omega, by show (keepValues.getD q ⟨#[]⟩).size ≤ 24; omega, hk1, hk4⟩
theorem keepNs_good {ns : List ByteArray} (h : keepNs ns) : ns.length ≤ 4 ∧ ∀ s ∈ ns, s.size ≤ 4 := by
  refine ⟨h.length_le, fun s hs => ?_⟩
  have hm : s ∈ keepNames := h.subset hs
  have : ∀ s ∈ keepNames, s.size ≤ 4 := by decide
  exact this s hm
theorem keepV_good : ∀ (d : Nat) (x : XE), keepV d x → goodX d x
  | 0, _, h => h.elim
  | d + 1, x, h => by
    rcases h with ⟨h1, h2, h3, h4, h5, h6⟩ | ⟨h1, h2, h3, h4, h5, a, b, hk, ha, hb⟩ | ⟨h1, h2, h3, h4, h5, a, b, hk, ha, hb⟩ | ⟨h1, h2, h3, h4, h5, a, b, hk, ha, hb⟩ | ⟨h1, h2, h3, h4, h5, a, hk, ha⟩
    · exact ⟨by omega, by omega, by unfold I64; omega, fun _ => keepMs_good h4, fun e => absurd e (by omega), fun e => absurd e (by omega)⟩
    · have hd := keepV_pos ha
      obtain ⟨d', rfl⟩ : ∃ d', d = d' + 1 := ⟨d - 1, by omega⟩
      exact ⟨by omega, by omega, by unfold I64; omega, fun e => absurd e (by omega), fun e => absurd e (by omega), fun _ _ => ⟨a, b, hk, keepV_good _ a ha, keepNum_good (by omega) hb⟩⟩
    · exact ⟨by omega, by omega, by unfold I64; omega, fun e => absurd e (by omega), fun e => absurd e (by omega), fun _ _ => ⟨a, b, hk, keepV_good _ a ha, keepV_good _ b hb⟩⟩
    · exact ⟨by omega, by omega, by unfold I64; omega, fun e => absurd e (by omega), fun e => absurd e (by omega), fun _ _ => ⟨a, b, hk, keepV_good _ a ha, keepN_good _ b hb⟩⟩
    · have hn := keepNs_good h5
      exact ⟨by omega, by omega, by unfold I64; omega, fun e => absurd e (by omega), fun _ => ⟨by omega, fun s hs => by have := hn.2 s hs; omega, a, hk, keepV_good _ a ha⟩, fun _ e => absurd e (by omega)⟩
theorem printX_two {d : Nat} {x a b : XE} {o : Nat} (h1 : ¬ x.kd = 1) (h2 : ¬ x.kd = 2) (h3 : ¬ 17 ≤ x.kd) (hk : x.kids = [a, b]) (ho : (x.kd - 3).toNat = o) : printX (d + 1) x = 40 :: (printX d a ++ (32 :: ((opsL.getD o ⟨#[]⟩).data.toList ++ (32 :: (printX d b ++ [41]))))) := by
  rw [printX, if_neg h1, if_neg h2, if_neg h3, hk, ho]; rfl
theorem printX_one {d : Nat} {x a : XE} {o : Nat} (h1 : ¬ x.kd = 1) (h2 : ¬ x.kd = 2) (h3 : 17 ≤ x.kd) (hk : x.kids = [a]) (ho : (x.kd - 17).toNat = o) : printX (d + 1) x = (aggsL.getD o ⟨#[]⟩).data.toList ++ ([32, 98, 121, 32, 40] ++ (joinN x.ns ++ ([41, 32, 40] ++ (printX d a ++ [41])))) := by
  rw [printX, if_neg h1, if_neg h2, if_pos h3, hk, ho]; rfl
end Go.Proofs.YtnkbpcenkbihpaaDoor
