/- GroupWaits: mathematics. -/
import Derived.Test.YtjcbigkmmjcmdaaGroupCopies2
namespace Go.Proofs.Ytjcbigkmmjcmdaa
open Go.ChangeShapes Go.WideShapes Go.ChangeAt Go.RowKit
set_option linter.unusedVariables false
set_option linter.unusedSimpArgs false
/-- What the statement has noted of a group, ahead of tick t. -/
structure WInv (wt iv rp t began last : Int) (said : List ByteArray) (s : GS) : Prop where
  tm : s.wt = wt ∧ s.iv = iv ∧ s.rp = rp
  st : (began = -1 ∧ s.st = 0 ∧ last = -1) ∨ (0 ≤ began ∧ began < t ∧ began + wt ≤ s.since + s.wait ∧ (s.st = 1 ∧ last = -1 ∨ s.st = 2 ∧ 0 ≤ last ∧ last < t ∧ s.lastT = last ∧ s.last = said ∧ last + iv ≤ s.since + s.wait))
  since : 0 ≤ s.since ∧ s.since ≤ t
  wait : 0 ≤ s.wait ∧ s.wait ≤ 30
  lastT : 0 ≤ s.lastT ∧ s.lastT ≤ t
  last : s.last.length ≤ 3
  said : said.length ≤ 3
theorem WInv.start (wt iv rp : Int) : WInv wt iv rp 0 (-1) (-1) [] (GS.new wt iv rp) := ⟨⟨rfl, rfl, rfl⟩, .inl ⟨rfl, rfl, rfl⟩, by simp [GS.new], by simp [GS.new], by simp [GS.new], by simp [GS.new], by simp⟩
theorem WInv.in_ {wt iv rp t b l : Int} {q : List ByteArray} {s : GS} (h : WInv wt iv rp t b l q s) (ht : t ≤ 200) : (s.st ≠ 0 → I64 (t - s.since)) ∧ (s.st = 2 → I64 (t - s.lastT)) ∧ s.last.length ≤ 1000000 := by
  obtain ⟨_, _, ⟨h1, h2⟩, _, ⟨h3, h4⟩, h5, _⟩ := h
  refine ⟨fun _ => ?_, fun _ => ?_, by omega⟩ <;> unfold I64 <;> omega
theorem WInv.range {wt iv rp t b l : Int} {q : List ByteArray} {s : GS} (h : WInv wt iv rp t b l q s) (h0 : 0 ≤ t) : -1 ≤ b ∧ b ≤ t ∧ -1 ≤ l ∧ l ≤ t := by
  rcases h.st with ⟨h1, _, h2⟩ | ⟨h1, h2, _, ⟨_, h3⟩ | ⟨_, h3, h4, _⟩⟩ <;> omega
def beganF (began t : Int) (al : List ByteArray) : Int := if began < 0 ∧ al ≠ [] then t else began
theorem WInv.step {wt iv rp t began last : Int} {said : List ByteArray} {s : GS} {al : List ByteArray} (h : WInv wt iv rp t began last said s) (hl : al.length ≤ 3) (hw : 0 ≤ wt ∧ wt ≤ 30) (hi : 1 ≤ iv ∧ iv ≤ 20) (ht : 0 ≤ t ∧ t ≤ 200) :
    ((s.tick t al).2.2 = true → (s.tick t al).2.1 = al ∧ beganF began t al + wt ≤ t ∧ (0 ≤ last → last + iv ≤ t) ∧ (0 ≤ last → al = said → al ≠ [] → last + rp ≤ t)) ∧
    ((s.tick t al).1.st = 0 → WInv wt iv rp (t + 1) (-1) (-1) (if (s.tick t al).2.2 then (s.tick t al).2.1 else said) (s.tick t al).1) ∧
    ((s.tick t al).1.st ≠ 0 → WInv wt iv rp (t + 1) (beganF began t al) (if (s.tick t al).2.2 then t else last) (if (s.tick t al).2.2 then (s.tick t al).2.1 else said) (s.tick t al).1) := by
  obtain ⟨wt', iv', rp', st, since, wait, lastT, la⟩ := s
  obtain ⟨⟨rfl, rfl, rfl⟩, hst, ⟨hs1, hs2⟩, ⟨hw1, hw2⟩, ⟨hl1, hl2⟩, hll, hsl⟩ := h
  simp only at hst hs1 hs2 hw1 hw2 hl1 hl2 hll hw hi hsl
  rcases hst with ⟨rfl, rfl, rfl⟩ | ⟨hb1, hb2, hb3, hst⟩
  · by_cases hal : al = []
    · subst hal
      have e : (GS.mk wt' iv' rp' 0 since wait lastT la).tick t [] = (⟨wt', iv', rp', 0, since, wait, lastT, la⟩, [], false) := by simp [GS.tick]
      rw [e]
      exact ⟨(fun h => by cases h), (fun _ => ⟨⟨rfl, rfl, rfl⟩, .inl ⟨rfl, rfl, rfl⟩, ⟨hs1, by simp only; omega⟩, ⟨hw1, hw2⟩, ⟨hl1, by simp only; omega⟩, hll, hsl⟩), (fun h => absurd rfl h)⟩
    · have hbf : beganF (-1) t al = t := by unfold beganF; rw [if_pos ⟨by omega, hal⟩]
      rw [hbf]
      by_cases h0 : 0 < wt'
      · have e : (GS.mk wt' iv' rp' 0 since wait lastT la).tick t al = (⟨wt', iv', rp', 1, t, wt', lastT, la⟩, [], false) := by simp [GS.tick, GS.wakes, hal, h0]
        rw [e]
        exact ⟨(fun h => by cases h), (fun h => by cases h), (fun _ => ⟨⟨rfl, rfl, rfl⟩, .inr ⟨by omega, by omega, by simp only; omega, .inl ⟨rfl, rfl⟩⟩, by simp only; omega, by simp only; omega, by simp only; omega, hll, hsl⟩)⟩
      · obtain rfl : wt' = 0 := by omega
        have e : (GS.mk 0 iv' rp' 0 since wait lastT la).tick t al = (⟨0, iv', rp', 2, t, iv', t, al⟩, al, true) := by simp [GS.tick, GS.wakes, GS.looks, hal]
        rw [e]
        exact ⟨(fun _ => ⟨rfl, by simp only; omega, by omega, by omega⟩), (fun h => by cases h), (fun _ => ⟨⟨rfl, rfl, rfl⟩, .inr ⟨by omega, by omega, by simp only; omega, .inr ⟨rfl, by simp only [if_true]; omega, by simp only [if_true]; omega, by simp, by simp, by simp only [if_true]; omega⟩⟩, by simp only; omega, by simp only; omega, by simp only; omega, hl, by simpa using hl⟩)⟩
  · have hbf : beganF began t al = began := by unfold beganF; rw [if_neg (by omega)]
    rw [hbf]
    have hst0 : st ≠ 0 := by omega
    by_cases hlook : t - since < wait
    · have e : (GS.mk wt' iv' rp' st since wait lastT la).tick t al = (⟨wt', iv', rp', st, since, wait, lastT, la⟩, [], false) := by
        simp [GS.tick, GS.wakes, hst0, hlook]
      rw [e]
      refine ⟨(fun h => by cases h), (fun h => absurd h hst0), (fun _ => ⟨⟨rfl, rfl, rfl⟩, .inr ⟨hb1, by omega, hb3, ?_⟩, by simp only; omega, by simp only; omega, by simp only; omega, hll, hsl⟩)⟩
      rcases hst with h | ⟨h1, h2, h3, h4, h5, h6⟩
      · exact .inl h
      · exact .inr ⟨h1, by simpa using h2, by simp; omega, by simpa using h4, by simpa using h5, by simpa using h6⟩
    · by_cases hal : al = []
      · subst hal
        have e : (GS.mk wt' iv' rp' st since wait lastT la).tick t [] = (GS.new wt' iv' rp', [], decide (st = 2)) := by
          simp [GS.tick, GS.wakes, hst0, hlook]
        rw [e]
        refine ⟨(fun h => ⟨rfl, by (try simp only); omega, (fun h2 => ?_), (fun _ _ h => absurd rfl h)⟩), (fun _ => ⟨⟨rfl, rfl, rfl⟩, .inl ⟨rfl, rfl, rfl⟩, by simp [GS.new]; omega, by simp [GS.new], by simp [GS.new]; omega, by simp [GS.new], by split <;> simp [hsl]⟩), (fun h => absurd rfl h)⟩
        (try simp only); rcases hst with ⟨_, h3⟩ | ⟨h1, h3, h4, h5, h6, h7⟩ <;> omega
      · by_cases hsame : st = 2 ∧ al = la ∧ t - lastT < rp'
        · have e : (GS.mk wt' iv' rp' st since wait lastT la).tick t al = (⟨wt', iv', rp', st, t, iv', lastT, la⟩, [], false) := by
            obtain ⟨rfl, rfl, h3⟩ := hsame
            simp [GS.tick, GS.wakes, GS.looks, hal, hlook, h3]
          rw [e]
          refine ⟨(fun h => by cases h), (fun h => absurd h hst0), (fun _ => ⟨⟨rfl, rfl, rfl⟩, .inr ⟨hb1, by omega, by simp only; omega, ?_⟩, by simp only; omega, by simp only; omega, by simp only; omega, hll, hsl⟩)⟩
          rcases hst with h | ⟨h1, h2, h3, h4, h5, h6⟩
          · omega
          · exact .inr ⟨h1, by simpa using h2, by simp; omega, by simpa using h4, by simpa using h5, by simp; omega⟩
        · have e : (GS.mk wt' iv' rp' st since wait lastT la).tick t al = (⟨wt', iv', rp', 2, t, iv', t, al⟩, al, true) := by
            unfold GS.tick
            simp only [GS.wakes, GS.looks]
            rw [if_neg (by omega), if_neg (by rw [if_neg hst0]; exact hlook), if_neg hal, if_neg hsame]
          rw [e]
          refine ⟨(fun _ => ⟨rfl, by (try simp only); omega, (fun h => ?_), (fun h h2 _ => ?_)⟩), (fun h => by cases h), (fun _ => ⟨⟨rfl, rfl, rfl⟩, .inr ⟨hb1, by omega, by simp only; omega, .inr ⟨rfl, by simp only [if_true]; omega, by simp only [if_true]; omega, by simp, by simp, by simp only [if_true]; omega⟩⟩, by simp only; omega, by simp only; omega, by simp only; omega, hl, by simpa using hl⟩)⟩
          · (try simp only); rcases hst with ⟨_, h3⟩ | ⟨h1, h3, h4, h5, h6, h7⟩ <;> omega
          · rcases hst with ⟨_, h3⟩ | ⟨h1, h3, h4, h5, h6, h7⟩
            · omega
            · have : ¬ (t - lastT < rp') := fun h8 => hsame ⟨h1, by rw [h2, h6], h8⟩
              show last + rp' ≤ t
              omega
/-- One alert, always. -/
def hSt (wt iv rp t first : Int) (s : GS) : Prop :=
  (t = 0 ∧ s = GS.new wt iv rp ∧ first = -1) ∨ (1 ≤ t ∧ t ≤ wt ∧ s = ⟨wt, iv, rp, 1, 0, wt, 0, []⟩ ∧ first = -1) ∨ (wt < t ∧ wt ≤ first ∧ first < t ∧ s.wt = wt ∧ s.iv = iv ∧ s.rp = rp ∧ s.st = 2 ∧ s.last = [⟨#[97]⟩] ∧ s.lastT = first ∧ 0 ≤ s.since ∧ s.since < t ∧ 0 ≤ s.wait ∧ s.wait ≤ 30)
theorem hSt_step {wt iv rp t first : Int} {s : GS} (h : hSt wt iv rp t first s) (hw : 0 ≤ wt ∧ wt ≤ 30) (hi : 1 ≤ iv ∧ iv ≤ 20) (ht : 0 ≤ t ∧ t ≤ 200) :
    ((s.tick t [⟨#[97]⟩]).2.2 = true → (first < 0 → t = wt) ∧ (0 ≤ first → rp ≤ t - first)) ∧ hSt wt iv rp (t + 1) (if (s.tick t [⟨#[97]⟩]).2.2 then t else first) (s.tick t [⟨#[97]⟩]).1 := by
  rcases h with ⟨rfl, rfl, rfl⟩ | ⟨h1, h2, rfl, rfl⟩ | ⟨h1, h2, h3, h4⟩
  · by_cases h0 : 0 < wt
    · have e : (GS.new wt iv rp).tick 0 [⟨#[97]⟩] = (⟨wt, iv, rp, 1, 0, wt, 0, []⟩, [], false) := by simp [GS.tick, GS.wakes, GS.new, h0]
      rw [e]
      exact ⟨(fun h => by cases h), .inr (.inl ⟨by omega, by omega, rfl, rfl⟩)⟩
    · obtain rfl : wt = 0 := by omega
      have e : (GS.new 0 iv rp).tick 0 [⟨#[97]⟩] = (⟨0, iv, rp, 2, 0, iv, 0, [⟨#[97]⟩]⟩, [⟨#[97]⟩], true) := by simp [GS.tick, GS.wakes, GS.new, GS.looks]
      rw [e]
      exact ⟨(fun _ => ⟨fun _ => rfl, by omega⟩), .inr (.inr ⟨by omega, by simp, by simp, rfl, rfl, rfl, rfl, rfl, by simp, by simp, by simp, by simp only; omega, by simp only; omega⟩)⟩
  · by_cases h0 : t < wt
    · have e : (GS.mk wt iv rp 1 0 wt 0 []).tick t [⟨#[97]⟩] = (⟨wt, iv, rp, 1, 0, wt, 0, []⟩, [], false) := by simp [GS.tick, GS.wakes, h0]
      rw [e]
      exact ⟨(fun h => by cases h), .inr (.inl ⟨by omega, by omega, rfl, rfl⟩)⟩
    · obtain rfl : t = wt := by omega
      have e : (GS.mk t iv rp 1 0 t 0 []).tick t [⟨#[97]⟩] = (⟨t, iv, rp, 2, t, iv, t, [⟨#[97]⟩]⟩, [⟨#[97]⟩], true) := by simp [GS.tick, GS.wakes, GS.looks]
      rw [e]
      exact ⟨(fun _ => ⟨fun _ => rfl, by omega⟩), .inr (.inr ⟨by omega, by simp, by simp; omega, rfl, rfl, rfl, rfl, rfl, by simp, by simp only; omega, by simp only; omega, by simp only; omega, by simp only; omega⟩)⟩
  · obtain ⟨wt', iv', rp', st, since, wait, lastT, la⟩ := s
    obtain ⟨rfl, rfl, rfl, rfl, rfl, rfl, h5, h6, h7, h8⟩ := h4
    simp only at h5 h6 h7 h8 h2 h3 hw hi
    by_cases hlook : t - since < wait
    · have e : (GS.mk wt' iv' rp' 2 since wait lastT [⟨#[97]⟩]).tick t [⟨#[97]⟩] = (⟨wt', iv', rp', 2, since, wait, lastT, [⟨#[97]⟩]⟩, [], false) := by simp [GS.tick, GS.wakes, hlook]
      rw [e]
      exact ⟨(fun h => by cases h), .inr (.inr ⟨by omega, by simpa using h2, by simp; omega, rfl, rfl, rfl, rfl, rfl, by simp, by simp only; omega, by simp only; omega, by simp only; omega, by simp only; omega⟩)⟩
    · by_cases hsame : t - lastT < rp'
      · have e : (GS.mk wt' iv' rp' 2 since wait lastT [⟨#[97]⟩]).tick t [⟨#[97]⟩] = (⟨wt', iv', rp', 2, t, iv', lastT, [⟨#[97]⟩]⟩, [], false) := by simp [GS.tick, GS.wakes, GS.looks, hlook, hsame]
        rw [e]
        exact ⟨(fun h => by cases h), .inr (.inr ⟨by omega, by simpa using h2, by simp; omega, rfl, rfl, rfl, rfl, rfl, by simp, by simp only; omega, by simp only; omega, by simp only; omega, by simp only; omega⟩)⟩
      · have e : (GS.mk wt' iv' rp' 2 since wait lastT [⟨#[97]⟩]).tick t [⟨#[97]⟩] = (⟨wt', iv', rp', 2, t, iv', t, [⟨#[97]⟩]⟩, [⟨#[97]⟩], true) := by simp [GS.tick, GS.wakes, GS.looks, hlook, hsame]
        rw [e]
        exact ⟨(fun _ => ⟨(fun h => by simp only at h; omega), (fun _ => by (try simp only); omega)⟩), .inr (.inr ⟨by omega, by simp; omega, by simp; omega, rfl, rfl, rfl, rfl, rfl, by simp, by simp only; omega, by simp only; omega, by simp only; omega, by simp only; omega⟩)⟩
theorem hSt_in {wt iv rp t first : Int} {s : GS} (h : hSt wt iv rp t first s) (ht : 0 ≤ t ∧ t ≤ 200) (hw : 0 ≤ wt ∧ wt ≤ 30) : ((s.st ≠ 0 → I64 (t - s.since)) ∧ (s.st = 2 → I64 (t - s.lastT)) ∧ s.last.length ≤ 1000000) ∧ -1 ≤ first ∧ first < t + 1 := by
  rcases h with ⟨rfl, rfl, rfl⟩ | ⟨h1, h2, rfl, rfl⟩ | ⟨h1, h2, h3, h4, h5, h6, h7, h8, h9, h10, h11, _⟩
  · simp [GS.new]
  · simp; unfold I64; omega
  · rw [h8, h9]; refine ⟨⟨fun _ => ?_, fun _ => ?_, by simp⟩, by omega, by omega⟩ <;> unfold I64 <;> omega
end Go.Proofs.Ytjcbigkmmjcmdaa
