/- LexRuns. -/
import Derived.Test.YtealflkblkfhbaaDoorLex7
namespace Go.Proofs.YtealflkblkfhbaaDoor
open Go.ChangeShapes Go.WideShapes Go.ChangeAt Go.RowKit
set_option linter.unusedVariables false
set_option linter.unusedSimpArgs false
set_option maxRecDepth 100000
def toks1 : List Tok := [⟨4, 0, 0, ⟨#[40]⟩⟩, ⟨2, 0, 1, ⟨#[97]⟩⟩, ⟨4, 0, 3, ⟨#[62, 61]⟩⟩, ⟨1, -5, 6, ⟨#[]⟩⟩, ⟨4, 0, 8, ⟨#[41]⟩⟩]
def toks2 : List Tok := [⟨2, 0, 0, ⟨#[97]⟩⟩, ⟨1, -5, 1, ⟨#[]⟩⟩]
def toks3 : List Tok := [⟨1, 1, 0, ⟨#[]⟩⟩]
theorem tok_one : tokF (⟨#[40, 97, 32, 62, 61, 32, 45, 53, 41]⟩ : ByteArray).data.toList = (toks1, 9) := by kernel_rfl
theorem tok_two : tokF (⟨#[97, 45, 53]⟩ : ByteArray).data.toList = (toks2, 3) := by kernel_rfl
theorem tok_three : tokF (⟨#[49, 32, 36]⟩ : ByteArray).data.toList = (toks3, 2) := by kernel_rfl
theorem unq_x : unq [120] [] = none := by
  unfold unq; rw [if_neg (by simp), if_neg (by decide), if_neg (by decide)]; unfold unq; rfl
theorem quoted_x : quotedT [34, 120] = none := by
  unfold quotedT; rw [show List.drop 1 [(34 : UInt8), 120] = [120] from rfl, unq_x]; rfl
theorem first_x : firstT ⟨#[34, 120]⟩ = none := by
  unfold firstT
  rw [if_neg (by decide +kernel), if_neg (by decide +kernel), if_pos (by decide +kernel)]
  exact quoted_x
theorem tok_four : tokF (⟨#[34, 120]⟩ : ByteArray).data.toList = ([], 0) := by
  show tokGo 3 [34, 120] 0 [] = ([], 0)
  unfold tokGo
  dsimp only
  rw [if_neg (by decide +kernel), if_neg (by decide)]
  rw [show firstT ⟨(34 :: [(120 : UInt8)]).toArray⟩ = none from first_x]
theorem join_one : joinT toks1 = [40, 32, 97, 32, 62, 61, 32, 45, 53, 32, 41] := by kernel_rfl
theorem toks1_ok : ∀ t ∈ toks1, TokOk t := by
  intro t ht
  simp only [toks1, List.mem_cons, List.not_mem_nil, or_false] at ht
  rcases ht with rfl | rfl | rfl | rfl | rfl <;> exact ⟨by decide +kernel, by decide, by decide⟩
@[go_sem] theorem eq_tok3 (w : World) : (Op.equalIn 10000 27 (.agg #[.int .i64 1, .int .i64 (-5), .int .i64 6, .string ⟨#[]⟩]) (.agg #[.int .i64 1, .int .i64 (-5), .int .i64 6, .string ⟨#[]⟩])).run Tryd.prog w = .ok true w := by
  have u3 := Tryd.underlying3
  have a3 := Tryd.isAgg3
  have z3 := Tryd.sizeOf3
  have u9 := Tryd.underlying9
  have a9 := Tryd.isAgg9
  have z9 := Tryd.sizeOf9
  have hS : Tryd.prog.underlying 27 = some (.struct (Tryd.prog.fieldsOf 27)) := by kernel_rfl
  have hp : Tryd.prog.stoodInHeld 27 = false := by kernel_rfl
  rw [show (10000 : Nat) = 9999 + 1 from rfl, run_equalIn_agg w 9999 27 _ _ hS hp]
  simp only [Program.fieldsOf, Tryd.underlying27]
  go_simp
theorem tok1_any (w : World) : Calls Tryd.prog 7 #[.string ⟨#[40, 97, 32, 62, 61, 32, 45, 53, 41]⟩] w fun e w' => ∃ A c, e = .returned (.tuple #[.slice A 5 c, .int .i64 0, .int .i64 0]) ∧ w'.ownsRow w.heap.size 27 4 (.slice A 5 c) 5 (tcells toks1) ∧ Below w.heap.size w w' ∧ 5 ≤ c ∧ c ≤ 9223372036854775807 := by
  refine (tokens_any _ w (by decide +kernel)).mono ?_
  intro e w' h
  rw [tok_one] at h
  unfold TokAns at h
  rw [if_neg (by decide +kernel)] at h
  obtain ⟨A, c, h1, h2, h3, h4, h5⟩ := h
  exact ⟨A, c, h1, h2, h3, h4, h5⟩
theorem tok2_any (w : World) : Calls Tryd.prog 7 #[.string ⟨#[97, 45, 53]⟩] w fun e w' => ∃ A c, e = .returned (.tuple #[.slice A 2 c, .int .i64 0, .int .i64 0]) ∧ Below w.heap.size w w' ∧ 2 ≤ c ∧ c ≤ 9223372036854775807 := by
  refine (tokens_any _ w (by decide +kernel)).mono ?_
  intro e w' h
  rw [tok_two] at h
  unfold TokAns at h
  rw [if_neg (by decide +kernel)] at h
  obtain ⟨A, c, h1, h2, h3, h4, h5⟩ := h
  exact ⟨A, c, h1, h3, h4, h5⟩
theorem tok3_any (w : World) : Calls Tryd.prog 7 #[.string ⟨#[49, 32, 36]⟩] w fun e w' => e = .returned (.tuple #[.slice none 0 0, .int .i64 2, .int .i64 1]) ∧ Below w.heap.size w w' := by
  refine (tokens_any _ w (by decide +kernel)).mono ?_
  intro e w' h
  rw [tok_three] at h
  unfold TokAns at h
  rw [if_pos (by decide +kernel)] at h
  exact h
theorem tok4_any (w : World) : Calls Tryd.prog 7 #[.string ⟨#[34, 120]⟩] w fun e w' => e = .returned (.tuple #[.slice none 0 0, .int .i64 0, .int .i64 1]) ∧ Below w.heap.size w w' := by
  refine (tokens_any _ w (by decide +kernel)).mono ?_
  intro e w' h
  rw [tok_four] at h
  unfold TokAns at h
  rw [if_pos (by decide +kernel)] at h
  exact h
set_option maxHeartbeats 4000000 in
theorem lex_runs (w : World) (ht : Tab w) : Calls Tryd.prog 3 #[] w fun e w' => e = .returned (.bool true) ∧ Below w.heap.size w w' := by
  have HTAB := Lib.hid ht
  clear ht
  go_enter Tryd.func3, Tryd.ntmps3
  go_wp2_with fail
  refine (tok1_any _).mono ?_; rintro e w1 ⟨A, c, rfl, hown, hb1, hc, hc2⟩
  have HS := Lib.hid (Sees.of_own hown)
  have HB1 := Lib.hid hb1
  clear hown hb1
  go_wp2_with fail
  refine (tok2_any _).mono ?_; rintro e w2 ⟨A2, c2, rfl, hb2, hd, hd2⟩
  have HB2 := Lib.hid hb2
  clear hb2
  go_wp2_with fail
  refine (tok3_any _).mono ?_; rintro e w3 ⟨rfl, hb3⟩
  have HB3 := Lib.hid hb3
  clear hb3
  go_wp2_with fail
  refine (tok4_any _).mono ?_; rintro e w4 ⟨rfl, hb4⟩
  have HB4 := Lib.hid hb4
  clear hb4
  have HB14 := Lib.hid ((HB2.out.trans (HB3.out.mono HB2.out.size)).trans (HB4.out.mono (Nat.le_trans HB2.out.size HB3.out.size)))
  have HB := Lib.hid (HB1.out.trans (HB14.out.mono HB1.out.size))
  have HS4 := Lib.hid (HS.out.below HB14.out)
  have HJ := Lib.hid (join_any A 5 c toks1 w1.heap.size w4 HS4.out HB14.out.size (by decide) toks1_ok (tab_of HTAB.out HB.out))
  rw [join_one] at HJ
  obtain ⟨ad, hl, rfl, c0, c1, c2', c3⟩ := HS4.out.tok (k := 3) (by decide)
  simp only [toks1, List.getElem_cons_succ, List.getElem_cons_zero, Nat.reduceMul] at c0 c1 c2' c3
  have HA12 : ad.add 12 = (⟨ad.block, ad.off + 12, none⟩ : Addr) := by unfold Addr.add; rw [if_neg (by decide)]
  rw [HA12] at c0 c1 c2' c3
  dsimp only at c0 c1 c2' c3
  clear HA12
  clear HS HS4 HB1 HB2 HB3 HB4 HTAB
  go_wp2_with fail
  refine HJ.out.mono ?_; rintro e w5 ⟨rfl, hb5⟩
  have HB5 := Lib.hid (HB.out.trans (hb5.mono HB.out.size))
  clear hb5
  go_wp2_with fail
  go_ret
  exact ⟨rfl, HB5.out⟩
end Go.Proofs.YtealflkblkfhbaaDoor
