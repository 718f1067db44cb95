/- klaxonbook at bytes: Roomy, Intact. -/
import Derived.Test.YthnnbbhoelhmbaaByte
import Derived.Deep.QuietTactic
import Derived.BigQuiet
import Derived.Laws.CopyOwn
namespace Go.Proofs.Ythnnbbhoelhmbaa
open Go.ChangeShapes Go.WideShapes Go.ChangeAt Go.RowKit
set_option linter.unusedVariables false
theorem Try.infoU8b : (Try.prog.info? 5).map (fun i => (i.zero, i.size, i.bytes)) = some (some (.int .u8 0), 1, 1) := by kernel_rfl
/-- A list with 80 more places behind it, j of them marked. -/
def filled (zs : List Int) (mark : Int) (j : Nat) : List Value := u8s (zs ++ List.replicate j mark) ++ List.replicate (80 - j) (.int .u8 0)
theorem filled_start (zs : List Int) (mark : Int) (n : Nat) (h : zs.length = n) : splice (List.replicate (n + 80) (Value.int .u8 0)) 0 (u8s zs) = filled zs mark 0 := by
  subst h
  unfold splice filled
  rw [List.take_zero, List.nil_append, List.drop_replicate, u8s_length, List.replicate_zero, List.append_nil]
  congr 2; omega
theorem filled_step (zs : List Int) (mark : Int) (n j : Nat) (h : zs.length = n) (hj : j < 80) : (filled zs mark j).set (n + j) (.int .u8 mark) = filled zs mark (j + 1) := by
  subst h
  unfold filled
  rw [show 80 - j = (80 - (j + 1)) + 1 by omega, List.replicate_succ]
  rw [List.set_append_right _ _ (by simp [u8s])]
  have e : zs.length + j - (u8s (zs ++ List.replicate j mark)).length = 0 := by simp [u8s]
  rw [e, List.set_cons_zero, List.replicate_succ', ← List.append_assoc, u8s_append, u8s_append]
  simp [u8s]
theorem filled_end (zs : List Int) (mark : Int) : filled zs mark 80 = u8s (zs ++ List.replicate 80 mark) := by unfold filled; rw [Nat.sub_self, List.replicate_zero, List.append_nil]
theorem filled_length (zs : List Int) (mark : Int) (j : Nat) (hj : j ≤ 80) : (filled zs mark j).length = zs.length + 80 := by unfold filled; rw [List.length_append, u8s_length, List.length_append, List.length_replicate, List.length_replicate]; omega
theorem filled_get (zs : List Int) (mark : Int) (j : Nat) (hj : j < 80) : (filled zs mark j)[zs.length + j]? = some (.int .u8 0) := by
  unfold filled
  rw [List.getElem?_append_right (by simp [u8s])]
  have e : zs.length + j - (u8s (zs ++ List.replicate j mark)).length = 0 := by simp [u8s]
  rw [e, show 80 - j = (80 - (j + 1)) + 1 by omega, List.replicate_succ]; rfl
theorem roomy_u8 (A : Option Addr) (n c B : Nat) (zs : List Int) (mark : Int) (w : World) (h : Sees w B 1 A n (u8s zs)) (hB : B ≤ w.heap.size) (hn : n ≤ 1000000) :
    Calls Try.prog 20 #[.slice A n c, .int .u8 mark] w fun e w' => e = .returned (.slice (some ⟨w.heap.size, 0, none⟩) (n + 80) (n + 80)) ∧
      w'.ownsRow w.heap.size 5 1 (.slice (some ⟨w.heap.size, 0, none⟩) (n + 80) (n + 80)) (n + 80) (u8s (zs ++ List.replicate 80 mark)) ∧ Below w.heap.size w w' := by
  have H := Lib.hid h; clear h
  have HL := Lib.hid H.out.u8_len
  obtain ⟨i0, hi, hz0, hz1, hz2⟩ := info_parts Try.infoU8b
  go_enter Try.func20, Try.ntmps20
  go_wp2_with (at_make; refine wpList_make_full _ rfl _ _ 22 rfl w.heap.size 5 i0 (.int .u8 0) 1 Try.underlying22 hi hz0 hz1 _ _ _ _ (n + 80) rfl rfl ?l1 ?l2 ?b2 ?b3 (Nat.le_refl _) ?_)
  case l1 => simp
  case l2 => simp
  case b2 => rw [hz2]; omega
  case b3 => unfold maxLen; omega
  intro w1 hown hg
  have HB1 := Lib.hid ((Below.refl w.heap.size w).grown hg (Nat.le_refl _) (by simp))
  have hblk : Hid (Blk w1 w.heap.size 5 (List.replicate (n + 80) (.int .u8 0))) := by
    have := Blk.of_own hown
    rw [toList_madeCells_one] at this
    exact this
  clear hown hg
  go_wp2_with (with_reducible refine wpList_copy_splice rfl (.tmp 11) (.tmp 12) 22 22 rfl 5 Try.underlying22 ?s1 (some ⟨w.heap.size, 0, none⟩) A (n + 80) (n + 80) n c rfl rfl w.heap.size 0 _ 5 hblk.out.eq (u8s zs) ?s2 ?s3 ?s4 ?s5 w.heap.size w HB1.out (Nat.le_refl _) ?_)
  case s1 => rw [hi]; simp [hz1]
  case s2 => rw [u8s_length, HL.out]; simp
  case s3 =>
    intro hp
    obtain ⟨ad, h1, h2, h3⟩ := (H.out.below (HB1.out.mono hB)).at_ (by rw [u8s_length, HL.out] at hp; exact hp)
    first | exact ⟨rfl, ad, h1, h3⟩ | exact ⟨ad, h1, h3⟩
  case s4 => rw [u8s_length, HL.out]; simp
  case s5 => exact u8s_one _
  intro w2 hb2 hbel2
  have hb2' : Hid (Blk w2 w.heap.size 5 (filled zs mark 0)) := (filled_start zs mark n HL.out) ▸ Blk.mk hb2.out
  have HB2 := Lib.hid hbel2; clear hb2 hbel2 hblk HB1
  go_wp2
  go_loopw [6] (fun i wr => ∃ j : Nat, j ≤ 80 ∧ i = .int .i64 (n + j : Nat) ∧ Blk wr w.heap.size 5 (filled zs mark j) ∧ Below w.heap.size w wr) (fun i _ => n + 80 - (intOf i).toNat)
  case atStart => exact ⟨0, by omega, by go_num, hb2'.out, HB2.out⟩
  case round =>
    obtain ⟨j, hj, rfl, hb, hbel⟩ := hrel
    have HBL := Lib.hid hbel; clear hbel
    have HBK := Lib.hid hb; clear hb
    by_cases hlt : j < 80
    · have hc : wr.cell? ⟨w.heap.size, n + j, none⟩ = some (.int .u8 0) := by
        rw [HBK.out.cell, ← HL.out]; exact filled_get zs mark j hlt
      have hf : wr.frozen? ⟨w.heap.size, n + j, none⟩ = false := HBK.out.frozen _
      have HS := Lib.hid (filled_step zs mark n j HL.out hlt)
      go_wp2
      go_roundw
      case rel => exact ⟨j + 1, by omega, by go_num, HS.out ▸ HBK.out.set _ _, HBL.out.setCell (Nat.le_refl _) _⟩
      case measure => simp [intOf]; omega
    · obtain rfl : j = 80 := by omega
      go_wp2
      go_ret
      refine ⟨rfl, ?_, HBL.out⟩
      have := HBK.out.owns (base := w.heap.size) (size := 1) (n := n + 80) (cap := n + 80) (Nat.le_refl _) (Nat.le_refl _) (by unfold maxLen; omega) (by rw [filled_length _ _ _ (Nat.le_refl _), HL.out]; omega)
      rwa [List.take_of_length_le (by rw [filled_length _ _ _ (Nat.le_refl _), HL.out]; omega), filled_end] at this
theorem take_mark {zs ys : List Int} {mark : Int} {k j : Nat} (hk : k = ys.length + j) (hl : k < zs.length) (h : zs.take k = ys ++ List.replicate j mark) (he : zs[k] = mark) : zs.take (k + 1) = ys ++ List.replicate (j + 1) mark := by
  rw [List.take_succ_eq_append_getElem hl, h, he, List.replicate_succ', List.append_assoc]
theorem mark_ne {zs ys : List Int} {mark : Int} {k : Nat} (hk : ys.length ≤ k) (hl : k < zs.length) (he : zs[k] ≠ mark) : zs ≠ ys ++ List.replicate 80 mark := by
  rintro rfl
  apply he
  rw [List.getElem_append_right hk, List.getElem_replicate]
theorem intact_u8 (A A2 : Option Addr) (n c n2 c2 B B2 : Nat) (zs ys : List Int) (mark : Int) (w : World) (h : Sees w B 1 A n (u8s zs)) (h2 : Sees w B2 1 A2 n2 (u8s ys)) (hc : n ≤ c) (hn : n ≤ 9000000000000000000) (hn2 : n2 ≤ 9000000000000000000) :
    Calls Try.prog 21 #[.slice A n c, .slice A2 n2 c2, .int .u8 mark] w fun e w' => e = .returned (.bool (decide (zs = ys ++ List.replicate 80 mark))) ∧ ∃ m, w' = w.drewN m := by
  have HL := Lib.hid h.u8_len
  have HL2 := Lib.hid h2.u8_len
  by_cases hnn : n = n2 + 80
  · subst hnn
    have ht := Lib.hid (h.take (show n2 ≤ n2 + 80 by omega))
    have H := Lib.hid h; clear h
    have H2 := Lib.hid h2; clear h2
    rw [Nat.mul_one, u8s_take] at ht
    by_cases hs : zs.take n2 = ys
    · have HS := Lib.hid hs
      have hd := decide_eq_true hs; clear hs
      have HD := Lib.hid hd; clear hd
      go_enter Try.func21, Try.ntmps21
      go_wp2_with (go_at_call 10; refine (same_u8 _ _ _ _ _ _ _ _ _ _ _ ht.out H2.out (by omega) (by omega)).mono ?_; rintro e w' ⟨rfl, m, rfl⟩; rw [HD.out])
      go_loopw [7] (fun i wr => ∃ j m : Nat, j ≤ 80 ∧ i = .int .i64 (n2 + j : Nat) ∧ wr = w.drewN m ∧ zs.take (n2 + j) = ys ++ List.replicate j mark) (fun i _ => n2 + 80 - (intOf i).toNat)
      case atStart => exact ⟨0, _, by omega, by go_num, rfl, by simpa using HS.out⟩
      case round =>
        obtain ⟨j, m, hj, rfl, rfl, ht⟩ := hrel
        have HT := Lib.hid ht; clear ht
        by_cases hlt : j < 80
        · obtain ⟨ad, hkl, rfl, hc⟩ := H.out.u8 (show n2 + j < n2 + 80 by omega)
          have hq := Lib.hid (take_mark (by rw [HL2.out]) hkl HT.out)
          have hne := Lib.hid (mark_ne (ys := ys) (mark := mark) (show ys.length ≤ n2 + j by rw [HL2.out]; omega) hkl)
          generalize zs[n2 + j] = x at *
          by_cases hxy : x = mark
          · subst hxy
            have hd : (x == x) = true := by simp
            go_wp2
            go_roundw
            case rel => exact ⟨j + 1, _, by omega, by go_num, rfl, hq.out (by simp)⟩
            case measure => simp [intOf]; omega
          · have hd : (x == mark) = false := by simpa using hxy
            have hz := Lib.hid (hne.out hxy); clear hxy
            go_wp2
            go_ret
            exact ⟨ret_bool (decide_eq_false hz.out).symm, _, rfl⟩
        · obtain rfl : j = 80 := by omega
          have he : zs = ys ++ List.replicate 80 mark := by
            have := HT.out; rwa [List.take_of_length_le (by rw [HL.out]; omega)] at this
          have HE := Lib.hid (decide_eq_true he); clear he
          go_wp2
          go_ret
          exact ⟨ret_bool HE.out.symm, m, rfl⟩
    · have hz : zs ≠ ys ++ List.replicate 80 mark := by
        rintro rfl
        apply hs
        rw [List.take_append_of_le_length (by rw [HL2.out]; exact Nat.le_refl _), List.take_of_length_le (by rw [HL2.out]; exact Nat.le_refl _)]
      have hd := decide_eq_false hs; clear hs
      have HD := Lib.hid hd; clear hd
      have HE := Lib.hid (decide_eq_false hz); clear hz
      go_enter Try.func21, Try.ntmps21
      go_wp2_with (go_at_call 10; refine (same_u8 _ _ _ _ _ _ _ _ _ _ _ ht.out H2.out (by omega) (by omega)).mono ?_; rintro e w' ⟨rfl, m, rfl⟩; rw [HD.out])
      go_ret
      exact ⟨ret_bool HE.out.symm, _, rfl⟩
  · have hz : zs ≠ ys ++ List.replicate 80 mark := fun e => hnn (by rw [← HL.out, ← HL2.out, e, List.length_append, List.length_replicate])
    have hb : ((n : Int) == (n2 : Int) + 80) = false := beq_eq_false_iff_ne.2 (by omega)
    have HE := Lib.hid (decide_eq_false hz); clear hz h h2
    go_enter Try.func21, Try.ntmps21
    go_wp2
    go_ret
    exact ⟨ret_bool HE.out.symm, 0, rfl⟩
end Go.Proofs.Ythnnbbhoelhmbaa
