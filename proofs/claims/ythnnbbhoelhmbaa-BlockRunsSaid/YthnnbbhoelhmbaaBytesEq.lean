/- bytes.Equal. -/
import Derived.Test.YthnnbbhoelhmbaaByte
import Derived.Laws.BytesArg
import Derived.Shelf.Bytes.SlSmallAll
namespace Go.Proofs.Ythnnbbhoelhmbaa
open Go.ChangeShapes Go.WideShapes Go.ChangeAt Go.RowKit
set_option linter.unusedVariables false
set_option maxRecDepth 100000
theorem conv_u8 {P : Program} {w : World} {B n c : Nat} {A : Option Addr} {zs : List Int} (h : Sees w B 1 A n (u8s zs)) (src e dst : TypeId) (hs : P.underlying src = some (.slice e)) (he : P.underlying e = some (.int .u8)) (hd : P.underlying dst = some .string) :
    (convert src dst (.slice A n c)).run P w = .ok (.string (strOfNums zs)) w := by
  have hl := h.u8_len
  rcases Nat.eq_zero_or_pos n with h0 | h0
  · subst h0
    have : zs = [] := List.eq_nil_of_length_eq_zero hl
    subst this
    rw [run_convert_bytes_zero w src e hs he A c dst hd]; rfl
  · obtain ⟨ad, rfl, _, hc⟩ := h.at_ h0
    have hl2 : (loadCells ad n).run P w = .ok (zs.map (Value.int .u8)).toArray w := by
      have := run_loadCells_list (P := P) w ad (u8s zs) hc
      rw [u8s_length, hl] at this
      exact this
    rw [run_convert_bytes_string w src dst e (some ad) n c hs he hd]
    simp [Conv.bytesToString, hl2]
    rw [foldl_push_bytes]
    simp [strOfNums]
theorem str_inj {zs ys : List Int} (h1 : ∀ z ∈ zs, 0 ≤ z ∧ z < 256) (h2 : ∀ z ∈ ys, 0 ≤ z ∧ z < 256) : ((strOfNums zs).toList == (strOfNums ys).toList) = decide (zs = ys) := by
  have e : ∀ l : List Int, (strOfNums l).toList = l.map fun n => UInt8.ofNat n.toNat := fun l => by
    have := Lib.strOfNums_toList l; exact this
  rw [e, e]
  rw [Bool.eq_iff_iff, beq_iff_eq, decide_eq_true_iff]
  constructor
  · intro h
    have hl : zs.length = ys.length := by simpa using congrArg List.length h
    refine List.ext_getElem hl fun i hi hj => ?_
    have := congrArg (·[i]?) h
    simp only [List.getElem?_map, List.getElem?_eq_getElem hi, List.getElem?_eq_getElem hj, Option.map_some, Option.some.injEq] at this
    have a := h1 zs[i] (List.getElem_mem _)
    have b := h2 ys[i] (List.getElem_mem _)
    have := congrArg UInt8.toNat this
    simp at this
    omega
  · intro h; rw [h]
theorem bytesEq_any (A A2 : Option Addr) (n c n2 c2 B B2 : Nat) (zs ys : List Int) (w : World) (h : Sees w B 1 A n (u8s zs)) (h2 : Sees w B2 1 A2 n2 (u8s ys)) (hz : ∀ z ∈ zs, 0 ≤ z ∧ z < 256) (hy : ∀ z ∈ ys, 0 ≤ z ∧ z < 256) :
    Calls Try.prog 24 #[.slice A n c, .slice A2 n2 c2] w fun e w' => e = .returned (.bool (decide (zs = ys))) ∧ w = w' := by
  have e1 := conv_u8 (P := Try.prog) (c := c) h 22 5 9 Try.underlying22 Try.underlying5 Try.underlying9
  have e2 := conv_u8 (P := Try.prog) (c := c2) h2 22 5 9 Try.underlying22 Try.underlying5 Try.underlying9
  have HI := Lib.hid (str_inj hz hy)
  generalize strOfNums zs = s1 at *
  generalize strOfNums ys = s2 at *
  clear h h2 hz hy
  go_enter Try.func24, Try.ntmps24
  go_wp2_with fail
  go_ret
  exact ⟨ret_bool HI.out, rfl⟩
end Go.Proofs.Ythnnbbhoelhmbaa
