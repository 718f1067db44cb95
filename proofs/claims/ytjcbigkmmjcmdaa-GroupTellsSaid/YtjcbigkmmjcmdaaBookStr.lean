/- klaxonbook.Roomy, Intact at texts (gen_bookstr.py). -/
import Derived.Test.YtjcbigkmmjcmdaaSameStr
import Derived.Test.YtjcbigkmmjcmdaaFresh
import Derived.Laws.CopyOwn
import Derived.Maps.AppendAt
import Derived.WalkKit
import Derived.ProofKit
import Derived.Lib.Hide
import Derived.Deep.QuietTactic
import Derived.BigQuiet
import Derived.Laws.CopyOwn
namespace Go.Proofs.Ytjcbigkmmjcmdaa
open Go.ChangeShapes Go.WideShapes Go.ChangeAt Go.RowKit
set_option linter.unusedVariables false
set_option maxRecDepth 100000
/-- A list with 80 more places behind it, j of them marked. -/
def filledS (zs : List ByteArray) (mark : ByteArray) (j : Nat) : List Value := strs (zs ++ List.replicate j mark) ++ List.replicate (80 - j) (.string ⟨#[]⟩)
theorem filledS_start (zs : List ByteArray) (mark : ByteArray) (n : Nat) (h : zs.length = n) : splice (List.replicate (n + 80) (Value.string ⟨#[]⟩)) 0 (strs zs) = filledS zs mark 0 := by
  subst h
  unfold splice filledS
  rw [List.take_zero, List.nil_append, List.drop_replicate, strs_length, List.replicate_zero, List.append_nil]
  congr 2; omega
theorem filledS_step (zs : List ByteArray) (mark : ByteArray) (n j : Nat) (h : zs.length = n) (hj : j < 80) : (filledS zs mark j).set (n + j) (.string mark) = filledS zs mark (j + 1) := by
  subst h
  unfold filledS
  rw [show 80 - j = (80 - (j + 1)) + 1 by omega, List.replicate_succ]
  rw [List.set_append_right _ _ (by simp [strs])]
  have e : zs.length + j - (strs (zs ++ List.replicate j mark)).length = 0 := by simp [strs]
  rw [e, List.set_cons_zero, List.replicate_succ', ← List.append_assoc, strs_append, strs_append]
  simp [strs]
theorem filledS_end (zs : List ByteArray) (mark : ByteArray) : filledS zs mark 80 = strs (zs ++ List.replicate 80 mark) := by unfold filledS; rw [Nat.sub_self, List.replicate_zero, List.append_nil]
theorem filledS_length (zs : List ByteArray) (mark : ByteArray) (j : Nat) (hj : j ≤ 80) : (filledS zs mark j).length = zs.length + 80 := by unfold filledS; rw [List.length_append, strs_length, List.length_append, List.length_replicate, List.length_replicate]; omega
theorem filledS_get (zs : List ByteArray) (mark : ByteArray) (j : Nat) (hj : j < 80) : (filledS zs mark j)[zs.length + j]? = some (.string ⟨#[]⟩) := by
  unfold filledS
  rw [List.getElem?_append_right (by simp [strs])]
  have e : zs.length + j - (strs (zs ++ List.replicate j mark)).length = 0 := by simp [strs]
  rw [e, show 80 - j = (80 - (j + 1)) + 1 by omega, List.replicate_succ]; rfl
theorem roomy_str (A : Option Addr) (n c B : Nat) (zs : List ByteArray) (mark : ByteArray) (w : World) (h : Sees w B 1 A n (strs zs)) (hB : B ≤ w.heap.size) (hn : n ≤ 1000000) :
    Calls Try.prog 18 #[.slice A n c, .string mark] w fun e w' => e = .returned (.slice (some ⟨w.heap.size, 0, none⟩) (n + 80) (n + 80)) ∧
      w'.ownsRow w.heap.size 9 1 (.slice (some ⟨w.heap.size, 0, none⟩) (n + 80) (n + 80)) (n + 80) (strs (zs ++ List.replicate 80 mark)) ∧ Below w.heap.size w w' := by
  have H := Lib.hid h; clear h
  have HL := Lib.hid H.out.str_len
  obtain ⟨i0, hi, hz0, hz1, hz2⟩ := info_parts Try.infoStr
  go_enter Try.func18, Try.ntmps18
  go_wp2_with (at_make; refine wpList_make_full _ rfl _ _ 27 rfl w.heap.size 9 i0 (.string ⟨#[]⟩) 1 Try.underlying27 hi hz0 hz1 _ _ _ _ (n + 80) rfl rfl ?l1 ?l2 ?b2 ?b3 (Nat.le_refl _) ?_)
  case l1 => simp
  case l2 => simp
  case b2 => rw [hz2]; omega
  case b3 => unfold maxLen; omega
  intro w1 hown hg
  have HB1 := Lib.hid ((Below.refl w.heap.size w).grown hg (Nat.le_refl _) (by simp))
  have hblk : Hid (Blk w1 w.heap.size 9 (List.replicate (n + 80) (.string ⟨#[]⟩))) := by
    have := Blk.of_own hown
    rw [toList_madeCells_one] at this
    exact this
  clear hown hg
  go_wp2_with (with_reducible refine wpList_copy_splice rfl (.tmp 11) (.tmp 12) 27 27 rfl 9 Try.underlying27 ?s1 (some ⟨w.heap.size, 0, none⟩) A (n + 80) (n + 80) n c rfl rfl w.heap.size 0 _ 9 hblk.out.eq (strs zs) ?s2 ?s3 ?s4 ?s5 w.heap.size w HB1.out (Nat.le_refl _) ?_)
  case s1 => rw [hi]; simp [hz1]
  case s2 => rw [strs_length, HL.out]; simp
  case s3 =>
    intro hp
    obtain ⟨ad, h1, h2, h3⟩ := (H.out.below (HB1.out.mono hB)).at_ (by rw [strs_length, HL.out] at hp; exact hp)
    first | exact ⟨rfl, ad, h1, h3⟩ | exact ⟨ad, h1, h3⟩
  case s4 => rw [strs_length, HL.out]; simp
  case s5 => exact strs_one _
  intro w2 hb2 hbel2
  have hb2' : Hid (Blk w2 w.heap.size 9 (filledS zs mark 0)) := (filledS_start zs mark n HL.out) ▸ Blk.mk hb2.out
  have HB2 := Lib.hid hbel2; clear hb2 hbel2 hblk HB1
  go_wp2
  go_loopw [6] (fun i wr => ∃ j : Nat, j ≤ 80 ∧ i = .int .i64 (n + j : Nat) ∧ Blk wr w.heap.size 9 (filledS zs mark j) ∧ Below w.heap.size w wr) (fun i _ => n + 80 - (intOf i).toNat)
  case atStart => exact ⟨0, by omega, by go_num, hb2'.out, HB2.out⟩
  case round =>
    obtain ⟨j, hj, rfl, hb, hbel⟩ := hrel
    have HBL := Lib.hid hbel; clear hbel
    have HBK := Lib.hid hb; clear hb
    by_cases hlt : j < 80
    · have hc : wr.cell? ⟨w.heap.size, n + j, none⟩ = some (.string ⟨#[]⟩) := by
        rw [HBK.out.cell, ← HL.out]; exact filledS_get zs mark j hlt
      have hf : wr.frozen? ⟨w.heap.size, n + j, none⟩ = false := HBK.out.frozen _
      have HS := Lib.hid (filledS_step zs mark n j HL.out hlt)
      go_wp2
      go_roundw
      case rel => exact ⟨j + 1, by omega, by go_num, HS.out ▸ HBK.out.set _ _, HBL.out.setCell (Nat.le_refl _) _⟩
      case measure => simp [intOf]; omega
    · obtain rfl : j = 80 := by omega
      go_wp2
      go_ret
      refine ⟨rfl, ?_, HBL.out⟩
      have := HBK.out.owns (base := w.heap.size) (size := 1) (n := n + 80) (cap := n + 80) (Nat.le_refl _) (Nat.le_refl _) (by unfold maxLen; omega) (by rw [filledS_length _ _ _ (Nat.le_refl _), HL.out]; omega)
      rwa [List.take_of_length_le (by rw [filledS_length _ _ _ (Nat.le_refl _), HL.out]; omega), filledS_end] at this
theorem take_markS {zs ys : List ByteArray} {mark : ByteArray} {k j : Nat} (hk : k = ys.length + j) (hl : k < zs.length) (h : zs.take k = ys ++ List.replicate j mark) (he : zs[k] = mark) : zs.take (k + 1) = ys ++ List.replicate (j + 1) mark := by
  rw [List.take_succ_eq_append_getElem hl, h, he, List.replicate_succ', List.append_assoc]
theorem mark_neS {zs ys : List ByteArray} {mark : ByteArray} {k : Nat} (hk : ys.length ≤ k) (hl : k < zs.length) (he : zs[k] ≠ mark) : zs ≠ ys ++ List.replicate 80 mark := by
  rintro rfl
  apply he
  rw [List.getElem_append_right hk, List.getElem_replicate]
theorem intact_str (A A2 : Option Addr) (n c n2 c2 B B2 : Nat) (zs ys : List ByteArray) (mark : ByteArray) (w : World) (h : Sees w B 1 A n (strs zs)) (h2 : Sees w B2 1 A2 n2 (strs ys)) (hc : n ≤ c) (hn : n ≤ 9000000000000000000) (hn2 : n2 ≤ 9000000000000000000) :
    Calls Try.prog 21 #[.slice A n c, .slice A2 n2 c2, .string mark] w fun e w' => e = .returned (.bool (decide (zs = ys ++ List.replicate 80 mark))) ∧ ∃ m, w' = w.drewN m := by
  have HL := Lib.hid h.str_len
  have HL2 := Lib.hid h2.str_len
  by_cases hnn : n = n2 + 80
  · subst hnn
    have ht := Lib.hid (h.take (show n2 ≤ n2 + 80 by omega))
    have H := Lib.hid h; clear h
    have H2 := Lib.hid h2; clear h2
    rw [Nat.mul_one, strs_take] at ht
    by_cases hs : zs.take n2 = ys
    · have HS := Lib.hid hs
      have hd := decide_eq_true hs; clear hs
      have HD := Lib.hid hd; clear hd
      go_enter Try.func21, Try.ntmps21
      go_wp2_with (go_at_call 20; refine (same_str _ _ _ _ _ _ _ _ _ _ _ ht.out H2.out (by omega) (by omega)).mono ?_; rintro e w' ⟨rfl, m, rfl⟩; rw [HD.out])
      go_loopw [7] (fun i wr => ∃ j m : Nat, j ≤ 80 ∧ i = .int .i64 (n2 + j : Nat) ∧ wr = w.drewN m ∧ zs.take (n2 + j) = ys ++ List.replicate j mark) (fun i _ => n2 + 80 - (intOf i).toNat)
      case atStart => exact ⟨0, _, by omega, by go_num, rfl, by simpa using HS.out⟩
      case round =>
        obtain ⟨j, m, hj, rfl, rfl, ht⟩ := hrel
        have HT := Lib.hid ht; clear ht
        by_cases hlt : j < 80
        · obtain ⟨ad, hkl, rfl, hc⟩ := H.out.str (show n2 + j < n2 + 80 by omega)
          have hq := Lib.hid (take_markS (by rw [HL2.out]) hkl HT.out)
          have hne := Lib.hid (mark_neS (ys := ys) (mark := mark) (show ys.length ≤ n2 + j by rw [HL2.out]; omega) hkl)
          generalize zs[n2 + j] = x at *
          by_cases hxy : x = mark
          · subst hxy
            have hd : (x.toList == x.toList) = true := by simp
            go_wp2
            go_roundw
            case rel => exact ⟨j + 1, _, by omega, by go_num, rfl, hq.out (by simp)⟩
            case measure => simp [intOf]; omega
          · have hd : (x.toList == mark.toList) = false := by rw [beq_eq_false_iff_ne]; exact fun h => hxy (ba_ext h)
            have hz := Lib.hid (hne.out hxy); clear hxy
            go_wp2
            go_ret
            exact ⟨ret_bool (decide_eq_false hz.out).symm, _, rfl⟩
        · obtain rfl : j = 80 := by omega
          have he : zs = ys ++ List.replicate 80 mark := by
            have := HT.out; rwa [List.take_of_length_le (by rw [HL.out]; omega)] at this
          have HE := Lib.hid (decide_eq_true he); clear he
          go_wp2
          go_ret
          exact ⟨ret_bool HE.out.symm, m, rfl⟩
    · have hz : zs ≠ ys ++ List.replicate 80 mark := by
        rintro rfl
        apply hs
        rw [List.take_append_of_le_length (by rw [HL2.out]; exact Nat.le_refl _), List.take_of_length_le (by rw [HL2.out]; exact Nat.le_refl _)]
      have hd := decide_eq_false hs; clear hs
      have HD := Lib.hid hd; clear hd
      have HE := Lib.hid (decide_eq_false hz); clear hz
      go_enter Try.func21, Try.ntmps21
      go_wp2_with (go_at_call 20; refine (same_str _ _ _ _ _ _ _ _ _ _ _ ht.out H2.out (by omega) (by omega)).mono ?_; rintro e w' ⟨rfl, m, rfl⟩; rw [HD.out])
      go_ret
      exact ⟨ret_bool HE.out.symm, _, rfl⟩
  · have hz : zs ≠ ys ++ List.replicate 80 mark := fun e => hnn (by rw [← HL.out, ← HL2.out, e, List.length_append, List.length_replicate])
    have hb : ((n : Int) == (n2 : Int) + 80) = false := beq_eq_false_iff_ne.2 (by omega)
    have HE := Lib.hid (decide_eq_false hz); clear hz h h2
    go_enter Try.func21, Try.ntmps21
    go_wp2
    go_ret
    exact ⟨ret_bool HE.out.symm, 0, rfl⟩
end Go.Proofs.Ytjcbigkmmjcmdaa
