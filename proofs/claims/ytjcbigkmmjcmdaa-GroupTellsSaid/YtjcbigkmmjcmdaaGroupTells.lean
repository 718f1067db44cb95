/- GroupTells: the group and the document's own answer go alike. -/
import Derived.Test.YtjcbigkmmjcmdaaRefGroup
import Derived.Test.YtjcbigkmmjcmdaaGroupAlerts
namespace Go.Proofs.Ytjcbigkmmjcmdaa
open Go.ChangeShapes Go.WideShapes Go.ChangeAt Go.RowKit
set_option linter.unusedVariables false
set_option linter.unusedSimpArgs false
structure GRel (wt iv rp t : Int) (s : GS) (r : RV) : Prop where
  tm : s.wt = wt ∧ s.iv = iv ∧ s.rp = rp
  rtm : r.wt = wt ∧ r.iv = iv ∧ r.rp = rp
  st : (s.st = 0 ∧ r.bg < 0) ∨ ((s.st = 1 ∨ s.st = 2) ∧ 0 ≤ r.bg ∧ r.nx = s.since + s.wait ∧ ((s.st = 1 ∧ r.sn = -1) ∨ (s.st = 2 ∧ r.sn = s.lastT ∧ r.last = s.last)))
  since : 0 ≤ s.since ∧ s.since ≤ t
  wait : 0 ≤ s.wait ∧ s.wait ≤ 30
  lastT : 0 ≤ s.lastT ∧ s.lastT ≤ t
  last : s.last.length ≤ 3
  rlast : r.last.length ≤ 3
  sn : -1 ≤ r.sn ∧ r.sn ≤ t
theorem GRel.start (wt iv rp : Int) : GRel wt iv rp 0 (GS.new wt iv rp) (RV.new wt iv rp) :=
  ⟨⟨rfl, rfl, rfl⟩, ⟨rfl, rfl, rfl⟩, .inl ⟨rfl, by simp [RV.new]⟩, by simp [GS.new], by simp [GS.new], by simp [GS.new], by simp [GS.new], by simp [RV.new], by simp [RV.new]⟩
theorem GRel.later {wt iv rp t t' : Int} {s : GS} {r : RV} (h : GRel wt iv rp t s r) (ht : t ≤ t') : GRel wt iv rp t' s r :=
  ⟨h.tm, h.rtm, h.st, ⟨h.since.1, by have := h.since.2; omega⟩, h.wait, ⟨h.lastT.1, by have := h.lastT.2; omega⟩, h.last, h.rlast, ⟨h.sn.1, by have := h.sn.2; omega⟩⟩
theorem GRel.step {wt iv rp t : Int} {s : GS} {r : RV} {al : List ByteArray} (A : Option Addr) (c : Nat) (h : GRel wt iv rp t s r) (hl : al.length ≤ 3) (hw : 0 ≤ wt ∧ wt ≤ 30) (hi : 1 ≤ iv ∧ iv ≤ 20) (ht : 0 ≤ t) :
    (s.tick t al).2.2 = (r.tick t A c al).2.2 ∧ (s.tick t al).2.1 = (if (s.tick t al).2.2 then al else []) ∧ ((r.tick t A c al).2.2 = true → (r.tick t A c al).2.1 = true ∨ al = []) ∧ GRel wt iv rp t (s.tick t al).1 (r.tick t A c al).1 := by
  obtain ⟨wt', iv', rp', st, since, wait, lastT, la⟩ := s
  obtain ⟨wr, ir, rr, bg, nx, sn, lA, lc, lr, nA, nn, nc⟩ := r
  obtain ⟨⟨rfl, rfl, rfl⟩, ⟨hr1, hr2, hr3⟩, hst, ⟨hs1, hs2⟩, ⟨hw1, hw2⟩, ⟨hl1, hl2⟩, hll, hrl, ⟨hn1, hn2⟩⟩ := h
  simp only at hr1 hr2 hr3 hst hs1 hs2 hw1 hw2 hl1 hl2 hll hrl hn1 hn2 hw hi
  subst hr1; subst hr2; subst hr3
  rcases hst with ⟨rfl, hbg⟩ | ⟨hst, hbg, hnx, hsn⟩
  · by_cases hal : al = []
    · subst hal
      have e1 : (GS.mk wr ir rr 0 since wait lastT la).tick t [] = (⟨wr, ir, rr, 0, since, wait, lastT, la⟩, [], false) := by simp [GS.tick]
      have e2 : (RV.mk wr ir rr bg nx sn lA lc lr nA nn nc).tick t A c [] = (⟨wr, ir, rr, bg, nx, sn, lA, lc, lr, A, 0, c⟩, false, false) := by simp [RV.tick, hbg]
      rw [e1, e2]
      exact ⟨rfl, rfl, (fun h => by cases h), ⟨⟨rfl, rfl, rfl⟩, ⟨rfl, rfl, rfl⟩, .inl ⟨rfl, hbg⟩, ⟨hs1, hs2⟩, ⟨hw1, hw2⟩, ⟨hl1, hl2⟩, hll, hrl, ⟨hn1, hn2⟩⟩⟩
    · by_cases h0 : 0 < wr
      · have e1 : (GS.mk wr ir rr 0 since wait lastT la).tick t al = (⟨wr, ir, rr, 1, t, wr, lastT, la⟩, [], false) := by simp [GS.tick, GS.wakes, hal, h0]
        have e2 : (RV.mk wr ir rr bg nx sn lA lc lr nA nn nc).tick t A c al = (⟨wr, ir, rr, t, t + wr, -1, none, 0, [], A, al.length, c⟩, false, false) := by
          simp [RV.tick, RV.wakes, hbg, hal, show t < t + wr by omega]
        rw [e1, e2]
        exact ⟨rfl, rfl, (fun h => by cases h), ⟨⟨rfl, rfl, rfl⟩, ⟨rfl, rfl, rfl⟩, .inr ⟨.inl rfl, ht, rfl, .inl ⟨rfl, rfl⟩⟩, by simp only; omega, by simp only; omega, ⟨hl1, hl2⟩, hll, by simp, by simp only; omega⟩⟩
      · obtain rfl : wr = 0 := by omega
        have e1 : (GS.mk 0 ir rr 0 since wait lastT la).tick t al = (⟨0, ir, rr, 2, t, ir, t, al⟩, al, true) := by simp [GS.tick, GS.wakes, GS.looks, hal]
        have e2 : (RV.mk 0 ir rr bg nx sn lA lc lr nA nn nc).tick t A c al = (⟨0, ir, rr, t, t + ir, t, A, c, al, A, al.length, c⟩, true, true) := by
          simp [RV.tick, RV.wakes, RV.sends, hbg, hal]
        rw [e1, e2]
        exact ⟨rfl, rfl, (fun _ => .inl rfl), ⟨⟨rfl, rfl, rfl⟩, ⟨rfl, rfl, rfl⟩, .inr ⟨.inr rfl, ht, rfl, .inr ⟨rfl, rfl, rfl⟩⟩, by simp only; omega, by simp only; omega, by simp only; omega, hl, hl, by simp only; omega⟩⟩
  · have hst0 : st ≠ 0 := by omega
    have hbg0 : ¬ bg < 0 := by omega
    by_cases hlook : t - since < wait
    · have e1 : (GS.mk wr ir rr st since wait lastT la).tick t al = (⟨wr, ir, rr, st, since, wait, lastT, la⟩, [], false) := by simp [GS.tick, GS.wakes, hst0, hlook]
      have e2 : (RV.mk wr ir rr bg nx sn lA lc lr nA nn nc).tick t A c al = (⟨wr, ir, rr, bg, nx, sn, lA, lc, lr, A, al.length, c⟩, false, false) := by
        simp [RV.tick, RV.wakes, hbg0, show t < nx by omega]
      rw [e1, e2]
      exact ⟨rfl, rfl, (fun h => by cases h), ⟨⟨rfl, rfl, rfl⟩, ⟨rfl, rfl, rfl⟩, .inr ⟨hst, hbg, hnx, hsn⟩, ⟨hs1, hs2⟩, ⟨hw1, hw2⟩, ⟨hl1, hl2⟩, hll, hrl, ⟨hn1, hn2⟩⟩⟩
    · have hnl : ¬ t < nx := by omega
      by_cases hal : al = []
      · subst hal
        have e1 : (GS.mk wr ir rr st since wait lastT la).tick t [] = (GS.new wr ir rr, [], decide (st = 2)) := by simp [GS.tick, GS.wakes, hst0, hlook]
        have e2 : (RV.mk wr ir rr bg nx sn lA lc lr nA nn nc).tick t A c [] = (RV.new wr ir rr, false, decide (0 ≤ sn)) := by simp [RV.tick, RV.wakes, hbg0, hnl]
        rw [e1, e2]
        refine ⟨?_, by simp, (fun _ => .inr rfl), ⟨⟨rfl, rfl, rfl⟩, ⟨rfl, rfl, rfl⟩, .inl ⟨rfl, by simp [RV.new]⟩, ⟨Int.le_refl _, ht⟩, by simp [GS.new], ⟨Int.le_refl _, ht⟩, by simp [GS.new], by simp [RV.new], ⟨Int.le_refl _, (show (-1 : Int) ≤ t by omega)⟩⟩⟩
        rcases hsn with ⟨h1, h2⟩ | ⟨h1, h2, _⟩
        · show decide (st = 2) = decide (0 ≤ sn)
          rw [decide_eq_false (by omega), decide_eq_false (by omega)]
        · show decide (st = 2) = decide (0 ≤ sn)
          rw [decide_eq_true (by omega), decide_eq_true (by omega)]
      · by_cases hsame : st = 2 ∧ al = la ∧ t - lastT < rr
        · have e1 : (GS.mk wr ir rr st since wait lastT la).tick t al = (⟨wr, ir, rr, st, t, ir, lastT, la⟩, [], false) := by
            obtain ⟨rfl, rfl, h3⟩ := hsame
            simp [GS.tick, GS.wakes, GS.looks, hal, hlook, h3]
          have e2 : (RV.mk wr ir rr bg nx sn lA lc lr nA nn nc).tick t A c al = (⟨wr, ir, rr, bg, t + ir, sn, lA, lc, lr, A, al.length, c⟩, true, false) := by
            obtain ⟨h1, h2, h3⟩ := hsame
            rcases hsn with ⟨h4, h5⟩ | ⟨h4, h5, h6⟩
            · omega
            · have hsd : (RV.mk wr ir rr bg nx sn lA lc lr A al.length c).sends t al = false := by
                unfold RV.sends
                rw [decide_eq_false (by simp only; omega), decide_eq_false (by simp only; rw [h6, h2]; intro h; rcases h.2 with h7 | h7; (exact h7 rfl); omega)]; rfl
              unfold RV.tick
              simp only [RV.wakes]
              rw [if_neg (by omega), if_neg (by rw [if_neg hbg0]; exact hnl), if_neg hal, if_neg hbg0, hsd]
              rfl
          rw [e1, e2]
          exact ⟨rfl, rfl, (fun h => by cases h), ⟨⟨rfl, rfl, rfl⟩, ⟨rfl, rfl, rfl⟩, .inr ⟨hst, hbg, rfl, hsn⟩, by simp only; omega, by simp only; omega, ⟨hl1, hl2⟩, hll, hrl, ⟨hn1, hn2⟩⟩⟩
        · have e1 : (GS.mk wr ir rr st since wait lastT la).tick t al = (⟨wr, ir, rr, 2, t, ir, t, al⟩, al, true) := by
            unfold GS.tick
            simp only [GS.wakes, GS.looks]
            rw [if_neg (by omega), if_neg (by rw [if_neg hst0]; exact hlook), if_neg hal, if_neg hsame]
          have e2 : (RV.mk wr ir rr bg nx sn lA lc lr nA nn nc).tick t A c al = (⟨wr, ir, rr, bg, t + ir, t, A, c, al, A, al.length, c⟩, true, true) := by
            have hsd : (RV.mk wr ir rr bg nx sn lA lc lr A al.length c).sends t al = true := by
              unfold RV.sends
              simp only
              rcases hsn with ⟨h4, h5⟩ | ⟨h4, h5, h6⟩
              · rw [decide_eq_true ⟨by omega, hal⟩]; rfl
              · rw [decide_eq_true (show 0 ≤ sn ∧ (lr ≠ al ∨ rr ≤ t - sn) from ⟨by omega, by
                  by_cases hq : lr = al
                  · exact .inr (by have : ¬ (t - lastT < rr) := fun h8 => hsame ⟨h4, by rw [← hq, h6], h8⟩
                                   omega)
                  · exact .inl hq⟩), Bool.or_true]
            unfold RV.tick
            simp only [RV.wakes]
            rw [if_neg (by omega), if_neg (by rw [if_neg hbg0]; exact hnl), if_neg hal, if_neg hbg0, hsd]
            rfl
          rw [e1, e2]
          exact ⟨rfl, rfl, (fun _ => .inl rfl), ⟨⟨rfl, rfl, rfl⟩, ⟨rfl, rfl, rfl⟩, .inr ⟨.inr rfl, hbg, rfl, .inr ⟨rfl, rfl, rfl⟩⟩, by simp only; omega, by simp only; omega, by simp only; omega, hl, hl, by simp only; omega⟩⟩
end Go.Proofs.Ytjcbigkmmjcmdaa
