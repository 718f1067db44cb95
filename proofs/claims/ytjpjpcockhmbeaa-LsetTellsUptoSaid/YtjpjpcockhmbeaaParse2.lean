/- lset.Parse: one label, and the whole. -/
import Derived.Test.YtjpjpcockhmbeaaParse
import Derived.Deep.CutBlock
namespace Go.Proofs.Ytjpjpcockhmbeaa
open Go.ChangeShapes Go.WideShapes Go.ChangeAt Go.RowKit
set_option linter.unusedVariables false
set_option maxRecDepth 100000
/-- What is told of a text that may begin with a label. -/
def LabAns (r : Option ((ByteArray × ByteArray) × List UInt8)) (w : World) (e : Ending) (w' : World) : Prop :=
  Below w.heap.size w w' ∧ match r with
    | none => ∃ (a b : ByteArray), ∃ t : ByteArray, e = .returned (.tuple #[.agg #[.string a, .string b], .string t, .bool false])
    | some (x, t) => e = .returned (.tuple #[.agg #[.string x.1, .string x.2], .string ⟨t.toArray⟩, .bool true])
theorem labAns_no {w w' : World} {e : Ending} {r : Option ((ByteArray × ByteArray) × List UInt8)} {a b t : ByteArray} (hr : r = none) (hb : Below w.heap.size w w') (he : e = .returned (.tuple #[.agg #[.string a, .string b], .string t, .bool false])) : LabAns r w e w' := by subst hr; exact ⟨hb, a, b, t, he⟩
theorem labAns_yes {w w' : World} {e : Ending} {r : Option ((ByteArray × ByteArray) × List UInt8)} {a b : ByteArray} {t : List UInt8} (hr : r = some ((a, b), t)) (hb : Below w.heap.size w w') (he : e = .returned (.tuple #[.agg #[.string a, .string b], .string ⟨t.toArray⟩, .bool true])) : LabAns r w e w' := by subst hr; exact ⟨hb, he⟩
set_option maxHeartbeats 2000000 in
theorem label_any (s : ByteArray) (w : World) (hs : s.size ≤ 9223372036854775807) :
    Calls Try.prog 35 #[.string s] w (LabAns (labelF s.data.toList) w) := by
  obtain ⟨tot, htot⟩ : ∃ tot, labelF s.data.toList = tot := ⟨_, rfl⟩
  have HTOT := Lib.hid htot
  rw [htot]
  clear htot
  cases hc : cutL 61 s.data.toList with
  | none =>
    have HN : Hid (tot = none) := Lib.hid (by rw [← HTOT.out, labelF, hc])
    have HC := Lib.hid (fun W => cut_no s 61 W hc hs)
    clear hc HTOT
    go_enter Try.func35, Try.ntmps35
    go_wp2_with fail
    refine (HC.out _).mono ?_; rintro e w' ⟨rfl, rfl⟩
    go_wp2_with fail
    exact bodyPost_ret (v := .tuple #[.agg #[.string ⟨#[]⟩, .string ⟨#[]⟩], .string ⟨#[]⟩, .bool false]) (by simp [results, Try.results35, go_sem]) rfl (labAns_no HN.out ((Below.refl _ _).alloc (Nat.le_refl _) _) rfl)
  | some p =>
    obtain ⟨n, r⟩ := p
    have HC := Lib.hid (fun W => cut_yes s 61 n r W hc hs)
    have hsz : n.length + (r.length + 1) = s.size := by
      have := congrArg List.length (cutL_some hc)
      simp at this; omega
    have HW := Lib.hid (fun W => word_any ⟨n.toArray⟩ W)
    have HF : Hid (tot = if wordF ⟨n.toArray⟩ then (match unqText r with | none => none | some (v, r') => some ((⟨n.toArray⟩, ⟨v.toArray⟩), r')) else none) := Lib.hid (by rw [← HTOT.out, labelF, hc]; rfl)
    clear hc HTOT
    obtain ⟨q, hq⟩ : ∃ q, wordF ⟨n.toArray⟩ = q := ⟨_, rfl⟩
    rw [hq] at HW HF
    clear hq
    cases q with
    | false =>
      have HN : Hid (tot = none) := Lib.hid (by rw [HF.out]; rfl)
      clear HF
      go_enter Try.func35, Try.ntmps35
      go_wp2_with fail
      refine (HC.out _).mono ?_; rintro e w' ⟨rfl, m, rfl⟩
      go_wp2_with fail
      refine (HW.out _).mono ?_; rintro e w' ⟨rfl, rfl⟩
      go_wp2_with fail
      exact bodyPost_ret (v := .tuple #[.agg #[.string ⟨#[]⟩, .string ⟨#[]⟩], .string ⟨#[]⟩, .bool false]) (by simp [results, Try.results35, go_sem]) rfl (labAns_no HN.out (((below_drewN3 ((Below.refl w.heap.size w).alloc (Nat.le_refl _) _) m).setCell (p := ⟨w.heap.size, 0, none⟩) (Nat.le_refl _) _).setCell (p := ⟨w.heap.size, 1, none⟩) (Nat.le_refl _) _) rfl)
    | true =>
      have HU := Lib.hid (fun W => unquote_any ⟨r.toArray⟩ W (by show r.toArray.size ≤ _; simp; omega))
      have HF2 : Hid (tot = match unqText r with | none => none | some (v, r') => some ((⟨n.toArray⟩, ⟨v.toArray⟩), r')) := Lib.hid (by rw [HF.out]; rfl)
      clear HF
      go_enter Try.func35, Try.ntmps35
      go_wp2_with fail
      refine (HC.out _).mono ?_; rintro e w' ⟨rfl, m, rfl⟩
      go_wp2_with fail
      refine (HW.out _).mono ?_; rintro e w' ⟨rfl, rfl⟩
      go_wp2_with fail
      refine (HU.out _).mono ?_; rintro e w1 ⟨hb, he⟩
      have HK : Hid (Blk w1 w.heap.size 25 [.string ⟨#[]⟩, .string ⟨#[]⟩]) := Lib.hid (Blk.below ((Blk.mk (heap_alloc_new w _) : Blk (w.alloc (.cells #[.string ⟨#[]⟩, .string ⟨#[]⟩] 25)) w.heap.size 25 [.string ⟨#[]⟩, .string ⟨#[]⟩]).drewN m) hb (by simp))
      have HB := Lib.hid ((below_drewN3 ((Below.refl w.heap.size w).alloc (Nat.le_refl _) (.cells #[.string ⟨#[]⟩, .string ⟨#[]⟩] 25)) m).trans (hb.mono (by simp)))
      have c0 := HK.out.cell 0
      have c1 := HK.out.cell 1
      simp only [List.getElem?_cons_zero, List.getElem?_cons_succ] at c0 c1
      have hf := HK.out.frozen
      have hf0 := hf 0
      have hf1 := hf 1
      have hlt := HK.out.lt
      have hS : Blk ((w1.setCell ⟨w.heap.size, 0, none⟩ (.string ⟨n.toArray⟩))) w.heap.size 25 [.string ⟨n.toArray⟩, .string ⟨#[]⟩] := HK.out.set 0 _
      have HBB := Lib.hid (fun (u v : Value) => ((HB.out.setCell (p := ⟨w.heap.size, 0, none⟩) (Nat.le_refl _) u).setCell (p := ⟨w.heap.size, 1, none⟩) (Nat.le_refl _) v))
      have h2 : ∀ u, (w1.setCell ⟨w.heap.size, 0, none⟩ u).cell? ⟨w.heap.size, 0, none⟩ = some u := fun u => by have := (HK.out.set 0 u).cell 0; simpa using this
      have h3 : ∀ u v, ((w1.setCell ⟨w.heap.size, 0, none⟩ u).setCell ⟨w.heap.size, 1, none⟩ v).cell? ⟨w.heap.size, 1, none⟩ = some v := fun u v => by have := ((HK.out.set 0 u).set 1 v).cell 1; simpa using this
      have H2 := Lib.hid h2; have H3 := Lib.hid h3
      clear hf HB hb h2 h3 hS
      cases hu : unqText r with
      | none =>
        rw [hu] at he
        simp only at he
        subst he
        have HN : Hid (tot = none) := Lib.hid (by rw [HF2.out, hu])
        clear hu HF2
        go_wp2_with fail
        exact bodyPost_ret (v := .tuple #[.agg #[.string ⟨n.toArray⟩, .string ⟨#[]⟩], .string ⟨#[]⟩, .bool false]) (by simp [results, Try.results35, go_sem, H2.out, H3.out]) rfl (labAns_no HN.out (HBB.out _ _) rfl)
      | some p =>
        obtain ⟨v, t⟩ := p
        rw [hu] at he
        simp only at he
        subst he
        have HN : Hid (tot = some ((⟨n.toArray⟩, ⟨v.toArray⟩), t)) := Lib.hid (by rw [HF2.out, hu])
        clear hu HF2
        go_wp2_with fail
        exact bodyPost_ret (v := .tuple #[.agg #[.string ⟨n.toArray⟩, .string ⟨v.toArray⟩], .string ⟨t.toArray⟩, .bool true]) (by simp [results, Try.results35, go_sem, H2.out, H3.out]) rfl (labAns_yes HN.out (HBB.out _ _) rfl)
end Go.Proofs.Ytjpjpcockhmbeaa
