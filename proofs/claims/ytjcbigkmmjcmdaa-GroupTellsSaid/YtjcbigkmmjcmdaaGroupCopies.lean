/- The walk of GroupCopies. -/
import Derived.Test.YtjcbigkmmjcmdaaGroupAlerts
import Derived.Test.YtjcbigkmmjcmdaaGroupQuiet2
namespace Go.Proofs.Ytjcbigkmmjcmdaa
open Go.ChangeShapes Go.WideShapes Go.ChangeAt Go.RowKit
set_option linter.unusedVariables false
set_option linter.unusedSimpArgs false
set_option maxRecDepth 100000
theorem alertsF_some : ∀ q, q < 8 → 1 ≤ q → alertsF q ≠ [] ∧ (alertsF q).length ≤ 3 := by decide
/-- A group to which alerts come at each tick. -/
structure GInv (wt iv rp : Int) (t : Int) (s : GS) : Prop where
  tm : s.wt = wt ∧ s.iv = iv ∧ s.rp = rp
  st : t = 0 ∧ s.st = 0 ∨ 1 ≤ t ∧ (s.st = 1 ∨ s.st = 2)
  since : 0 ≤ s.since ∧ s.since ≤ t
  wait : 0 ≤ s.wait ∧ s.wait ≤ 30
  lastT : 0 ≤ s.lastT ∧ s.lastT ≤ t
  last : s.last.length ≤ 3
theorem GInv.start (wt iv rp : Int) : GInv wt iv rp 0 (GS.new wt iv rp) := ⟨⟨rfl, rfl, rfl⟩, .inl ⟨rfl, rfl⟩, by simp [GS.new], by simp [GS.new], by simp [GS.new], by simp [GS.new]⟩
theorem GInv.in_ {wt iv rp t : Int} {s : GS} (h : GInv wt iv rp t s) (ht : t ≤ 200) : (s.st ≠ 0 → I64 (t - s.since)) ∧ (s.st = 2 → I64 (t - s.lastT)) ∧ s.last.length ≤ 1000000 := by
  obtain ⟨_, _, ⟨h1, h2⟩, _, ⟨h3, h4⟩, h5⟩ := h
  refine ⟨fun _ => ?_, fun _ => ?_, by omega⟩ <;> unfold I64 <;> omega
def lookB (s : GS) (t : Int) : Bool := !decide (s.st = 0) && decide (s.next ≤ t)
/-- A tick with alerts: it stays so; what is told is looked for; a look sets the next one. -/
theorem GInv.step {wt iv rp t : Int} {s : GS} {al : List ByteArray} (h : GInv wt iv rp t s) (hal : al ≠ []) (hl : al.length ≤ 3) (hw : 0 ≤ wt ∧ wt ≤ 30) (hi : 1 ≤ iv ∧ iv ≤ 20) (ht : 0 ≤ t ∧ t ≤ 200) :
    GInv wt iv rp (t + 1) (s.tick t al).1 ∧ ((s.tick t al).2.2 = true → lookB s t = true ∨ wt = 0 ∧ t = 0) ∧ (lookB s t = true → (s.tick t al).1.next = t + iv) := by
  obtain ⟨wt', iv', rp', st, since, wait, lastT, last⟩ := s
  obtain ⟨⟨rfl, rfl, rfl⟩, hst, ⟨hs1, hs2⟩, ⟨hw1, hw2⟩, ⟨hl1, hl2⟩, hll⟩ := h
  simp only at hst hs1 hs2 hw1 hw2 hl1 hl2 hll hw hi
  rcases hst with ⟨rfl, rfl⟩ | ⟨h1, hst⟩
  · have hlk : lookB (GS.mk wt' iv' rp' 0 since wait lastT last) 0 = false := by simp [lookB]
    rw [hlk]
    by_cases h0 : 0 < wt'
    · have e : (GS.mk wt' iv' rp' 0 since wait lastT last).tick 0 al = (⟨wt', iv', rp', 1, 0, wt', lastT, last⟩, [], false) := by
        simp [GS.tick, GS.wakes, hal, h0]
      rw [e]
      exact ⟨⟨⟨rfl, rfl, rfl⟩, .inr ⟨by omega, .inl rfl⟩, by simp only; omega, by simp only; omega, by simp only; omega, hll⟩, (fun h => by cases h), (fun h => by cases h)⟩
    · obtain rfl : wt' = 0 := by omega
      have e : (GS.mk 0 iv' rp' 0 since wait lastT last).tick 0 al = (⟨0, iv', rp', 2, 0, iv', 0, al⟩, al, true) := by
        simp [GS.tick, GS.wakes, GS.looks, hal]
      rw [e]
      exact ⟨⟨⟨rfl, rfl, rfl⟩, .inr ⟨by omega, .inr rfl⟩, by simp only; omega, by simp only; omega, by simp only; omega, hl⟩, fun _ => .inr ⟨rfl, rfl⟩, (fun h => by cases h)⟩
  · have hst0 : st ≠ 0 := by omega
    have hnx : (GS.mk wt' iv' rp' st since wait lastT last).next = since + wait := by unfold GS.next; simp only; rw [if_neg hst0, if_neg (by omega)]
    by_cases hlook : t - since < wait
    · have e : (GS.mk wt' iv' rp' st since wait lastT last).tick t al = (⟨wt', iv', rp', st, since, wait, lastT, last⟩, [], false) := by
        simp [GS.tick, GS.wakes, hal, hst0, hlook]
      have hlk : lookB (GS.mk wt' iv' rp' st since wait lastT last) t = false := by
        unfold lookB; rw [hnx, decide_eq_false (show ¬ since + wait ≤ t by omega), Bool.and_false]
      rw [e, hlk]
      exact ⟨⟨⟨rfl, rfl, rfl⟩, .inr ⟨by omega, hst⟩, by simp only; omega, by simp only; omega, by simp only; omega, hll⟩, (fun h => by cases h), (fun h => by cases h)⟩
    · have hlk : lookB (GS.mk wt' iv' rp' st since wait lastT last) t = true := by
        unfold lookB; rw [hnx, decide_eq_true (show since + wait ≤ t by omega)]; simp [hst0]
      rw [hlk]
      by_cases hsame : st = 2 ∧ al = last ∧ t - lastT < rp'
      · have e : (GS.mk wt' iv' rp' st since wait lastT last).tick t al = (⟨wt', iv', rp', st, t, iv', lastT, last⟩, [], false) := by
          obtain ⟨rfl, rfl, h3⟩ := hsame
          simp [GS.tick, GS.wakes, GS.looks, hal, hlook, h3]
        rw [e]
        refine ⟨⟨⟨rfl, rfl, rfl⟩, .inr ⟨by omega, hst⟩, by simp only; omega, by simp only; omega, by simp only; omega, hll⟩, fun _ => .inl rfl, fun _ => ?_⟩
        unfold GS.next; simp only; rw [if_neg hst0, if_neg (by omega)]
      · have e : (GS.mk wt' iv' rp' st since wait lastT last).tick t al = (⟨wt', iv', rp', 2, t, iv', t, al⟩, al, true) := by
          unfold GS.tick
          simp only [GS.wakes, GS.looks]
          rw [if_neg (by omega), if_neg (by rw [if_neg hst0]; exact hlook), if_neg hal, if_neg hsame]
        rw [e]
        refine ⟨⟨⟨rfl, rfl, rfl⟩, .inr ⟨by omega, .inr rfl⟩, by simp only; omega, by simp only; omega, by simp only; omega, hl⟩, fun _ => .inl rfl, fun _ => ?_⟩
        unfold GS.next; simp only; rw [if_neg (by omega), if_neg (by omega)]
end Go.Proofs.Ytjcbigkmmjcmdaa
