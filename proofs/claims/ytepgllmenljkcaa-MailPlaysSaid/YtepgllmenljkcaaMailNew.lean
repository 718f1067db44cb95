/- mail.New, Take; clone.Note. -/
import Derived.Test.YtepgllmenljkcaaMailBox
namespace Go.Proofs.Ytepgllmenljkcaa
open Go.ChangeShapes Go.WideShapes Go.ChangeAt Go.RowKit
set_option linter.unusedVariables false
set_option linter.unusedSimpArgs false
set_option maxRecDepth 100000
/-- The note's alerts lie in new memory. -/
def FreshN (B : Nat) (x : NV) : Prop := ∀ ad, x.A = some ad → 0 < x.al.length → B ≤ ad.block
/-- The note's alerts are a row of the call's own. -/
def NOwn (B : Nat) (x : NV) (w : World) : Prop := w.ownsRow B 9 1 (.slice x.A x.al.length x.c) x.al.length (strs x.al)
def capN (room : Int) : Nat := if room < 1 then 1 else if 8 < room then 8 else room.toNat
theorem capN_in (room : Int) : 1 ≤ capN room ∧ capN room ≤ 8 := by
  unfold capN
  repeat' split
  all_goals omega
theorem mkchan_any (k : Nat) (hk : k ≤ 8) (w : World) : (Instr.makeChan 44 (.int .i64 k)).run Try.prog w = .ok (.chan (some w.heap.size)) (w.alloc (.chan k #[] false 0 0 false)) := by
  have h : (Try.prog.info? 27).map (·.bytes) = some 56 := by kernel_rfl
  obtain ⟨i, hi, hb⟩ := Option.map_eq_some_iff.1 h
  exact Conc.run_makeChan (P := Try.prog) (w := w) Try.underlying44 hi .i64 k (by omega) (by rw [hb]; omega)
theorem box_at (k : Nat) (w : World) : BAt (w.heap.size + 1) w.heap.size k 0 [] ((w.alloc (.chan k #[] false 0 0 false)).alloc (.cells #[.chan (some w.heap.size), .int .i64 0] 46)) := by
  refine ⟨?_, ⟨0, 0, ?_⟩, by simp, (fun x hx => by cases hx)⟩
  · have h := (Blk.mk (heap_alloc_new (w.alloc (.chan k #[] false 0 0 false)) (.cells #[.chan (some w.heap.size), .int .i64 0] 46)) : Blk _ _ 46 [.chan (some w.heap.size), .int .i64 0])
    simpa using h
  · rw [Below.heap_alloc _ _ _ (by simp)]
    exact heap_alloc_new w _
theorem bnew_any (room : Int) (w : World) : Calls Try.prog 7 #[.int .i64 room] w fun e w' => ∃ b c, e = .returned (.pointer (some ⟨b, 0, none⟩)) ∧ BAt b c (capN room) 0 [] w' ∧ w.heap.size ≤ b ∧ w.heap.size ≤ c ∧ Below w.heap.size w w' := by
  have HBX := Lib.hid (fun k => box_at k w)
  have HB := Lib.hid (fun k => ((Below.refl w.heap.size w).alloc (Nat.le_refl _) (.chan k #[] false 0 0 false)).alloc (by simp) (.cells #[.chan (some w.heap.size), .int .i64 0] 46))
  by_cases h1 : room < 1
  · have HC := Lib.hid (show capN room = 1 by unfold capN; rw [if_pos h1])
    have hmc : (Instr.makeChan 44 (.int .i64 1)).run Try.prog w = .ok (.chan (some w.heap.size)) (w.alloc (.chan 1 #[] false 0 0 false)) := mkchan_any 1 (by omega) w
    have hm : max room 1 = 1 := by omega
    go_enter Try.func7, Try.ntmps7
    go_wp2_with fail
    go_ret
    first | exact ⟨_, _, rfl, by rw [HC.out]; exact HBX.out 1, by omega, by omega, HB.out 1⟩ | exact ⟨_, rfl, _, by rw [HC.out]; exact HBX.out 1, by omega, by omega, HB.out 1⟩
  · by_cases h8 : 8 < room
    · have HC := Lib.hid (show capN room = 8 by unfold capN; rw [if_neg h1, if_pos h8])
      have hmc : (Instr.makeChan 44 (.int .i64 8)).run Try.prog w = .ok (.chan (some w.heap.size)) (w.alloc (.chan 8 #[] false 0 0 false)) := mkchan_any 8 (by omega) w
      have hm : max room 1 = room := by omega
      go_enter Try.func7, Try.ntmps7
      go_wp2_with fail
      go_ret
      first | exact ⟨_, _, rfl, by rw [HC.out]; exact HBX.out 8, by omega, by omega, HB.out 8⟩ | exact ⟨_, rfl, _, by rw [HC.out]; exact HBX.out 8, by omega, by omega, HB.out 8⟩
    · obtain ⟨k, rfl⟩ := Int.eq_ofNat_of_zero_le (show 0 ≤ room by omega)
      have HC := Lib.hid (show capN k = k by unfold capN; rw [if_neg h1, if_neg h8]; rfl)
      have hmc := mkchan_any k (by omega) w
      go_enter Try.func7, Try.ntmps7
      go_wp2_with fail
      go_ret
      first | exact ⟨_, _, rfl, by rw [HC.out]; exact HBX.out k, by omega, by omega, HB.out k⟩ | exact ⟨_, rfl, _, by rw [HC.out]; exact HBX.out k, by omega, by omega, HB.out k⟩
theorem fresh_of_own {w : World} {base : Nat} {t : TypeId} {size n c : Nat} {A : Option Addr} {xs : List Value} (h : w.ownsRow base t size (.slice A n c) n xs) : ∀ ad, A = some ad → 0 < n → base ≤ ad.block := fun ad ha hn => by
  rcases h.2 with ⟨h1, _⟩ | ⟨g, cap, cur, hv, hb, hh, _⟩
  · injection h1 with _ h1 _; omega
  · injection hv with hv; rw [ha] at hv; injection hv with hv; rw [hv]; exact hb
theorem NOwn.fresh {B : Nat} {x : NV} {w : World} (h : NOwn B x w) : FreshN B x := fresh_of_own h
theorem cnote_any (x : NV) (w : World) (h : NOk w x) (hl : x.al.length ≤ 1000000) :
    Calls Try.prog 17 #[x.val] w fun e w' => ∃ y : NV, e = .returned y.val ∧ y.key = x.key ∧ NOk w' y ∧ NOwn w.heap.size y w' ∧ Below w.heap.size w w' := by
  obtain ⟨dst, gr, A, c, al⟩ := x
  obtain ⟨hs, ht, hc⟩ := h
  simp only at hs ht hc hl
  have HS := Lib.hid hs
  clear hs ht
  unfold NV.val
  simp only
  go_enter Try.func17, Try.ntmps17
  go_upto_region 1 with fail
  have HK := Lib.hid (((Blk.mk (heap_alloc_new w (.cells #[.string dst, .string gr, .slice A al.length c] 27)) : Blk _ _ 27 [.string dst, .string gr, .slice A al.length c])).alloc (.cells #[.string ⟨#[]⟩, .string ⟨#[]⟩, .slice none 0 0] 27))
  have HR := Lib.hid (show Blk ((w.alloc (.cells #[.string dst, .string gr, .slice A al.length c] 27)).alloc (.cells #[.string ⟨#[]⟩, .string ⟨#[]⟩, .slice none 0 0] 27)) (w.heap.size + 1) 27 [.string ⟨#[]⟩, .string ⟨#[]⟩, .slice none 0 0] by
    have h := (Blk.mk (heap_alloc_new (w.alloc (.cells #[.string dst, .string gr, .slice A al.length c] 27)) (.cells #[.string ⟨#[]⟩, .string ⟨#[]⟩, .slice none 0 0] 27)) : Blk _ _ 27 [.string ⟨#[]⟩, .string ⟨#[]⟩, .slice none 0 0])
    simpa using h)
  have HB := Lib.hid (((Below.refl w.heap.size w).alloc (Nat.le_refl _) (.cells #[.string dst, .string gr, .slice A al.length c] 27)).alloc (by simp) (.cells #[.string ⟨#[]⟩, .string ⟨#[]⟩, .slice none 0 0] 27))
  have HS2 := Lib.hid (HS.out.below HB.out)
  obtain ⟨W, hW⟩ : ∃ W, (w.alloc (.cells #[.string dst, .string gr, .slice A al.length c] 27)).alloc (.cells #[.string ⟨#[]⟩, .string ⟨#[]⟩, .slice none 0 0] 27) = W := ⟨_, rfl⟩
  rw [hW] at HK HR HB HS2
  rw [hW]
  clear hW HS
  have e0 := HK.out.cell 2
  simp only [List.getElem?_cons_zero, List.getElem?_cons_succ] at e0
  go_wp2_with fail
  (with_reducible refine (clone_str A al.length c _ al _ HS2.out HB.out.size hl).mono ?_); rintro e w3 ⟨A3, c3, rfl, ho3, hb3, hc3, hd3⟩
  have HK3 := Lib.hid (HK.out.below hb3 HK.out.lt)
  have HR3 := Lib.hid (HR.out.below hb3 HR.out.lt)
  have HB3 := Lib.hid (HB.out.trans (hb3.mono HB.out.size))
  have HO3 := Lib.hid (own_mono ho3 HB.out.size)
  have HT3 := Lib.hid (Typed.of_own ho3)
  have hsz := HK.out.lt
  have hsz2 := HR.out.lt
  have HO4 := Lib.hid ho3
  clear HK HR HB hb3 ho3 e0
  have f0 := HK3.out.cell 0; have f1 := HK3.out.cell 1; have f2 := HK3.out.cell 2; have f3 := HK3.out.frozen 2
  have g0 := HR3.out.cell 0; have g1 := HR3.out.cell 1; have g2 := HR3.out.cell 2
  have k0 := HR3.out.frozen 0; have k1 := HR3.out.frozen 1; have k2 := HR3.out.frozen 2
  simp only [List.getElem?_cons_zero, List.getElem?_cons_succ] at f0 f1 f2 g0 g1 g2
  go_wp2_with fail
  refine bodyPost_ret (v := .agg #[.string dst, .string gr, .slice A3 al.length c3]) (by simp [results, Try.results17, go_sem, f0, f1, f2, g0, g1, g2]) rfl ?_
  have HN := own_far (own_far (own_far (own_far HO4.out (p := ⟨w.heap.size, 2, none⟩) hsz (.slice A3 al.length c3)) (p := ⟨w.heap.size + 1, 0, none⟩) hsz2 (.string dst)) (p := ⟨w.heap.size + 1, 1, none⟩) hsz2 (.string gr)) (p := ⟨w.heap.size + 1, 2, none⟩) hsz2 (.slice A3 al.length c3)
  exact ⟨⟨dst, gr, A3, c3, al⟩, rfl, rfl, ⟨Sees.of_own HN, Typed.of_own HN, hc3, hd3⟩, own_mono HN (Nat.le_trans (by omega) (Nat.le_of_lt hsz2)), ((((HB3.out.setCell (by simp) _).setCell (by simp) _).setCell (by simp) _).setCell (by simp) _)⟩
end Go.Proofs.Ytepgllmenljkcaa
