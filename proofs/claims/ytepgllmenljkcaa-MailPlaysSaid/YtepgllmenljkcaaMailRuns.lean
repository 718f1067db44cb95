/- klaxonlaw19.MailRuns. -/
import Derived.Test.YtepgllmenljkcaaMailAll
namespace Go.Proofs.Ytepgllmenljkcaa
open Go.ChangeShapes Go.WideShapes Go.ChangeAt Go.RowKit
set_option linter.unusedVariables false
set_option linter.unusedSimpArgs false
set_option maxRecDepth 100000
/-- A note without alerts. -/
def NV.bare (x y : ByteArray) : NV := ⟨x, y, none, 0, []⟩
theorem NOk.bare (w : World) (x y : ByteArray) : NOk w (NV.bare x y) := ⟨Sees.nil, (fun _ h => by cases h), Nat.le_refl _, by simp [NV.bare]⟩
theorem typed_blk {w : World} {g n : Nat} {t : TypeId} {cs : List Value} (h : Blk w g t cs) : Typed w t (some ⟨g, 0, none⟩) n := fun ad ha _ => by
  injection ha with ha; subst ha; exact ⟨_, _, h.eq⟩
set_option maxHeartbeats 4000000 in
theorem mail_runs (w : World) : Calls Try.prog 3 #[] w fun e w' => e = .returned (.bool true) ∧ Below w.heap.size w w' := by
  have hc2 : capN 2 = 2 := by decide
  go_enter Try.func3, Try.ntmps3
  go_wp2_with fail
  (with_reducible refine (bnew_any 2 _).mono ?_); rintro e w1 ⟨b, c, rfl, hb1, hgb, hgc, hbel1⟩
  rw [hc2] at hb1
  have HB1 := Lib.hid hb1; have HL1 := Lib.hid hbel1
  clear hb1 hbel1 hc2
  go_wp2_with fail
  have HW := Lib.hid ((Below.refl w1.heap.size w1).alloc (Nat.le_refl _) (.cells #[.string ⟨#[97]⟩, .string ⟨#[]⟩, .slice none 0 0, .string ⟨#[98]⟩, .string ⟨#[]⟩, .slice none 0 0, .string ⟨#[99]⟩, .string ⟨#[]⟩, .slice none 0 0] 27))
  have HK := Lib.hid (Blk.mk (heap_alloc_new w1 (.cells #[.string ⟨#[97]⟩, .string ⟨#[]⟩, .slice none 0 0, .string ⟨#[98]⟩, .string ⟨#[]⟩, .slice none 0 0, .string ⟨#[99]⟩, .string ⟨#[]⟩, .slice none 0 0] 27)) : Blk _ _ 27 (ncells [NV.bare ⟨#[97]⟩ ⟨#[]⟩, NV.bare ⟨#[98]⟩ ⟨#[]⟩, NV.bare ⟨#[99]⟩ ⟨#[]⟩]))
  have HP := Lib.hid (Put_any b c 2 0 [] (some ⟨w1.heap.size, 0, none⟩) 3 3 [NV.bare ⟨#[97]⟩ ⟨#[]⟩, NV.bare ⟨#[98]⟩ ⟨#[]⟩, NV.bare ⟨#[99]⟩ ⟨#[]⟩] _ (HB1.out.below HW.out) (by omega) (HK.out.sees rfl (List.prefix_refl _)) (typed_blk HK.out)
    (fun x hx => by simp only [List.mem_cons, List.not_mem_nil, or_false] at hx; rcases hx with rfl | rfl | rfl <;> exact NOk.bare _ _ _) (fun x hx => by simp only [List.mem_cons, List.not_mem_nil, or_false] at hx; rcases hx with rfl | rfl | rfl <;> simp [NV.bare]) (by omega) (by omega))
  (with_reducible refine HP.out.mono ?_); rintro e w2 ⟨l2, rfl, hb2, hk2, hm2, _⟩
  have hlen : l2.length = 2 := by have := congrArg List.length hk2; simpa [lastN] using this
  match l2, hlen with
  | [x, y], _ =>
    have hx0 : x.dst = ⟨#[98]⟩ := by
      have := congrArg (fun l => (l.head?).map (·.1)) hk2
      simpa [lastN, NV.key, NV.bare] using this
    have HB2 := Lib.hid hb2; have HL2 := Lib.hid ((hm2.bel (HL1.out.trans (HW.out.mono HL1.out.size)) hgb hgc))
    clear hb2 hk2 hm2 HP HK HW HB1 HL1
    have HT := Lib.hid (Take_yes b c 2 _ x [y] _ HB2.out)
    go_wp2_with fail
    (with_reducible refine HT.out.mono ?_); rintro e w3 ⟨rfl, hb3, _, hm3⟩
    have HB3 := Lib.hid (hb3.alloc (.cells #[.string x.dst, .string x.group, .slice x.A x.al.length x.c] 27)); have HL3 := Lib.hid ((hm3.bel HL2.out hgb hgc).alloc (hm3.bel HL2.out hgb hgc).size (.cells #[.string x.dst, .string x.group, .slice x.A x.al.length x.c] 27))
    clear hb3 hm3 HT HB2 HL2
    unfold NV.val
    rw [hx0] at HB3 HL3 ⊢
    clear hx0
    rw [show (0 : Int) + (([] : List NV).length + 3 - 2 : Nat) = 1 by rfl] at HB3
    have HN := Lib.hid (blen_any b c 2 1 [y] _ HB3.out); have HD := Lib.hid (bdropped_any b c 2 1 [y] _ HB3.out)
    go_wp2_with fail
    (with_reducible refine HN.out.mono ?_); rintro e wq ⟨rfl, rfl⟩
    go_wp2_with fail
    (with_reducible refine HD.out.mono ?_); rintro e wq ⟨rfl, rfl⟩
    go_wp2_with fail
    go_ret
    exact ⟨rfl, HL3.out⟩
end Go.Proofs.Ytepgllmenljkcaa
