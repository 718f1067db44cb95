/- life.Run and life.Turns. -/
import Derived.Test.YtokcmppcmobbmaaLife
import Derived.Test.YtokcmppcmobbmaaAppend
import Derived.Test.YtokcmppcmobbmaaBookInt
namespace Go.Proofs.Ytokcmppcmobbmaa
open Go.ChangeShapes Go.WideShapes Go.ChangeAt Go.RowKit
set_option linter.unusedVariables false
set_option maxRecDepth 100000

def lifeRun (step long keep : Int) : Lf → Int → List Bool → List Int
  | _, _, [] => []
  | l, t, h :: hs => (l.next t step long keep h).st :: lifeRun step long keep (l.next t step long keep h) (t + 1) hs
theorem lifeRun_length (step long keep : Int) (l : Lf) (t : Int) (hs : List Bool) : (lifeRun step long keep l t hs).length = hs.length := by
  induction hs generalizing l t with
  | nil => rfl
  | cons h hs ih => simp [lifeRun, ih]
theorem lifeRun_step {step long keep : Int} {l : Lf} {t : Int} {hs : List Bool} {k : Nat} (hk : k < hs.length) :
    lifeRun step long keep l t (hs.drop k) = (l.next t step long keep hs[k]).st :: lifeRun step long keep (l.next t step long keep hs[k]) (t + 1) (hs.drop (k + 1)) := by
  rw [List.drop_eq_getElem_cons hk, lifeRun]

theorem Try.infoI : (Try.prog.info? 3).map (fun i => (i.zero, i.size, i.bytes)) = some (some (.int .i64 0), 1, 8) := by kernel_rfl

/-- The round's memory: the alert's block is written anew, its state is appended. -/
theorem run_round {w wr w1 w2 : World} {g k : Nat} {t e : TypeId} {v v' : Value} {s i a s' i' a' : Int} {sts : List Int} {ob : Obj}
    (hg : w.heap.size = g) (hB : Below w.heap.size w wr) (hb1 : Below wr.heap.size wr w1) (hown : wr.ownsRow (g + 1) e 1 v k (ints sts))
    (hblk : Blk wr g t [.int .i64 s, .int .i64 i, .int .i64 a])
    (hown' : w2.ownsRow (g + 1) e 1 v' (k + 1) (ints sts ++ [.int .i64 s']))
    (hgr : ((((w1.setCell ⟨g, 0, none⟩ (.int .i64 s')).setCell ⟨g, 1, none⟩ (.int .i64 i')).setCell ⟨g, 2, none⟩ (.int .i64 a')).alloc ob).grownBy w2 v.ownBlock) :
    w2.ownsRow (g + 1) e 1 v' (k + 1) (ints (sts ++ [s'])) ∧ Blk w2 g t [.int .i64 s', .int .i64 i', .int .i64 a'] ∧ Below w.heap.size w w2 := by
  subst hg
  have hsz := hB.size; have hsz1 := hb1.size
  have hlt := hown.lt
  have h1 : Blk w1 w.heap.size t [.int .i64 s, .int .i64 i, .int .i64 a] := hblk.below hb1 hblk.lt
  refine ⟨by rw [ints_append]; exact hown', ?_, ?_⟩
  · refine ((((h1.set 0 _).set 1 _).set 2 _).alloc ob).grown hgr ?_
    intro h
    have := (hlt _ h.symm).1; omega
  · refine (((((hB.trans (hb1.mono hsz)).setCell (Nat.le_refl _) _).setCell (Nat.le_refl _) _).setCell (Nat.le_refl _) _).alloc (by simp; omega) ob).grown hgr (by simp; omega) ?_
    intro j hj; have := (hlt j hj).1; omega
set_option maxHeartbeats 1000000 in
theorem run_any (step long keep : Int) (A : Option Addr) (n c : Nat) (hs : List Bool) (B : Nat) (w : World) (h : Sees w B 1 A n (bools hs)) (hB : B ≤ w.heap.size) (ws : I64 step) (wl : I64 long) (wk : I64 keep) (hn : n ≤ 100000) :
    Calls Try.prog 19 #[.int .i64 step, .int .i64 long, .int .i64 keep, .slice A n c] w fun e w' =>
      ∃ v, e = .returned v ∧ w'.ownsRow w.heap.size 3 1 v n (ints (lifeRun step long keep .zero 0 hs)) ∧ Below w.heap.size w w' := by
  have H := Lib.hid h; clear h
  have HL := Lib.hid H.out.bool_len
  have HS := Lib.hid ws; have HG := Lib.hid wl; have HK := Lib.hid wk; clear ws wl wk
  obtain ⟨i0, hi, hz0, hz1, hz2⟩ := info_parts Try.infoI
  go_enter Try.func19, Try.ntmps19
  go_wp2
  go_loopw [9, 15] (fun v i wr => ∃ (k : Nat) (l : Lf) (sts : List Int), k ≤ n ∧ i = .int .i64 k ∧ sts.length = k ∧ wr.ownsRow (w.heap.size + 1) 3 1 v k (ints sts) ∧ Blk wr w.heap.size 26 [.int .i64 l.st, .int .i64 l.since, .int .i64 l.last] ∧
      Below w.heap.size w wr ∧ l.ok ∧ lifeRun step long keep .zero 0 hs = sts ++ lifeRun step long keep l k (hs.drop k)) (fun _ i _ => n - (intOf i).toNat)
  case atStart => exact ⟨0, .zero, [], Nat.zero_le _, rfl, rfl, World.ownsRow_nil _ _ _ _, Blk.mk (heap_alloc_new w _), (Below.refl _ _).alloc (Nat.le_refl _) _, ⟨⟨by simp [Lf.zero], by simp [Lf.zero]⟩, by simp [Lf.zero], by simp [Lf.zero]⟩, rfl⟩
  case round =>
    obtain ⟨k, l, sts, hk, rfl, hsl, hown, hblk, hbel, hok, hrun⟩ := hrel
    have HO := Lib.hid hown; have HBK := Lib.hid hblk; have HBL := Lib.hid hbel; have HOK := Lib.hid hok; have HR := Lib.hid hrun; have HSL := Lib.hid hsl
    have hg := hblk.lt
    have hc0 : wr.cell? ⟨w.heap.size, 0, none⟩ = some (.int .i64 l.st) := hblk.cell 0
    have hc1 : wr.cell? ⟨w.heap.size, 1, none⟩ = some (.int .i64 l.since) := hblk.cell 1
    have hc2 : wr.cell? ⟨w.heap.size, 2, none⟩ = some (.int .i64 l.last) := hblk.cell 2
    clear hown hblk hbel hok hrun hsl
    by_cases hlt : k < n
    · obtain ⟨ad, hkl, rfl, hc⟩ := (H.out.below (HBL.out.mono hB)).bool hlt
      have hst := Lib.hid (lifeRun_step (step := step) (long := long) (keep := keep) (l := l) (t := (k : Int)) hkl)
      generalize hs[k] = b at *
      have HC := Lib.hid fun w => next_any l k step long keep b w HOK.out ⟨by omega, by omega⟩ HS.out HG.out HK.out
      have HN := Lib.hid (next_ok (step := step) (long := long) (keep := keep) (holds := b) HOK.out (show Tk (k : Int) from ⟨by omega, by omega⟩))
      generalize l.next k step long keep b = r at *
      obtain ⟨s', i', a'⟩ := r
      simp only [Lf.val] at *
      go_wp2_with fail
      refine (HC.out _).mono ?_; rintro e w1 ⟨rfl, hb1⟩
      obtain ⟨hcell, hfroz⟩ := bcell hb1
      have HB1 := Lib.hid hb1; clear hb1
      have hBK1 : Hid (Blk w1 w.heap.size 26 [.int .i64 l.st, .int .i64 l.since, .int .i64 l.last]) := HBK.out.below HB1.out (by omega)
      have hf : ∀ j, w1.frozen? ⟨w.heap.size, j, none⟩ = false := fun j => hBK1.out.frozen j
      clear hfroz
      have hown1 := Lib.hid (own_below HO.out HB1.out (Nat.le_refl _))
      have hs1 := HB1.out.size
      go_wp2_with (at_builtin; refine wpList_append_own _ rfl (.tmp 27) (.tmp 30) 22 rfl (w.heap.size + 1) 3 i0 (.int .i64 0) 1 8 Try.underlying22 hi hz0 hz1 hz2 rfl (by decide) _ k _ rfl ((own_far (own_far (own_far hown1.out (p := ⟨w.heap.size, 0, none⟩) (by simp) _) (p := ⟨w.heap.size, 1, none⟩) (by simp) _) (p := ⟨w.heap.size, 2, none⟩) (by simp) _).alloc _) ⟨w1.heap.size, 0, none⟩ 1 1 [.int .i64 s'] rfl rfl ?c1 ?c2 ?c3 ?c4 ?c5 ?_)
      case c1 =>
        intro j u hj
        match j, hj with
        | 0, hj => simp at hj; subst hj; simp [Addr.add]; rw [World.cell?_alloc_at _ _ _ _ (by simp)]; rfl
      case c2 => intro u hu; simp at hu; subst hu; rfl
      case c3 => unfold maxLen; omega
      case c4 => omega
      case c5 => simp; omega
      intro v' w2 hown' hgrow _
      have R := run_round rfl HBL.out HB1.out HO.out HBK.out hown' hgrow
      have RR := Lib.hid R; clear R hown' hgrow hcell hf hc0 hc1 hc2
      go_wp2
      go_roundw
      case rel => exact ⟨k + 1, ⟨s', i', a'⟩, sts ++ [s'], by omega, by go_num, by simp [HSL.out], RR.out.1, RR.out.2.1, RR.out.2.2, HN.out, by rw [HR.out, hst.out, List.append_assoc]; rfl⟩
      case measure => simp [intOf]; omega
    · obtain rfl : k = n := by omega
      have he : lifeRun step long keep .zero 0 hs = sts := by rw [HR.out, List.drop_of_length_le (by rw [HL.out]; exact Nat.le_refl _)]; simp [lifeRun]
      have HE := Lib.hid he; clear he
      go_wp2
      go_ret
      exact ⟨_, rfl, by rw [HE.out]; exact own_mono HO.out (by omega), HBL.out⟩

/-- The turns of a row of states, from tick t on, 'a' ahead of it. -/
def lifeTurns : Int → Int → List Int → List (Int × Int)
  | _, _, [] => []
  | a, t, s :: ss => if s = a then lifeTurns s (t + 1) ss else (t, s) :: lifeTurns s (t + 1) ss
theorem lifeTurns_length (a t : Int) (l : List Int) : (lifeTurns a t l).length ≤ l.length := by
  induction l generalizing a t with
  | nil => simp [lifeTurns]
  | cons s ss ih =>
    unfold lifeTurns
    split
    · have := ih s (t + 1); simp; omega
    · have := ih s (t + 1); simp; omega
def turnCells (l : List (Int × Int)) : List Value := l.flatMap fun x => [.int .i64 x.1, .int .i64 x.2, .slice none 0 0]
theorem turnCells_length (l : List (Int × Int)) : (turnCells l).length = l.length * 3 := by
  induction l with
  | nil => rfl
  | cons x l ih => simp only [turnCells, List.flatMap_cons, List.length_append, List.length_cons, List.length_nil] at ih ⊢; omega
theorem turnCells_append (l m : List (Int × Int)) : turnCells (l ++ m) = turnCells l ++ turnCells m := by simp [turnCells]
theorem Try.infoTurn : (Try.prog.info? 48).map (fun i => (i.zero, i.size, i.bytes)) = some (some (.agg #[.int .i64 0, .int .i64 0, .slice none 0 0]), 3, 40) := by kernel_rfl
theorem lifeTurns_step {a t : Int} {l : List Int} {k : Nat} (hk : k < l.length) :
    lifeTurns a t (l.drop k) = if l[k] = a then lifeTurns l[k] (t + 1) (l.drop (k + 1)) else (t, l[k]) :: lifeTurns l[k] (t + 1) (l.drop (k + 1)) := by
  rw [List.drop_eq_getElem_cons hk, lifeTurns]
theorem turns_round {w wr w2 : World} {B m : Nat} {e : TypeId} {v v' : Value} {t s : Int} {ts : List (Int × Int)} {ob : Obj} (hm : ts.length = m)
    (hB : Below B w wr) (hBs : B ≤ wr.heap.size) (hown : wr.ownsRow B e 3 v m (turnCells ts)) (hown' : w2.ownsRow B e 3 v' (m + 1) (turnCells ts ++ [.int .i64 t, .int .i64 s, .slice none 0 0])) (hg : (wr.alloc ob).grownBy w2 v.ownBlock) :
    w2.ownsRow B e 3 v' (m + 1) (turnCells (ts ++ [(t, s)])) ∧ Below B w w2 := by
  refine ⟨by rw [turnCells_append]; exact hown', (hB.alloc hBs ob).grown hg (by simp; omega) fun k hk => (hown.lt k hk).1⟩
set_option maxHeartbeats 1000000 in
theorem turns_any (A : Option Addr) (n c : Nat) (zs : List Int) (B : Nat) (w : World) (h : Sees w B 1 A n (ints zs)) (hB : B ≤ w.heap.size) (hn : n ≤ 100000) :
    Calls Try.prog 21 #[.slice A n c] w fun e w' =>
      ∃ v, e = .returned v ∧ w'.ownsRow w.heap.size 48 3 v (lifeTurns 0 0 zs).length (turnCells (lifeTurns 0 0 zs)) ∧ Below w.heap.size w w' := by
  have H := Lib.hid h; clear h
  have HL := Lib.hid H.out.int_len
  obtain ⟨i0, hi, hz0, hz1, hz2⟩ := info_parts Try.infoTurn
  go_enter Try.func21, Try.ntmps21
  go_wp2
  go_loopw [3, 4, 9] (fun v x i wr => ∃ (k : Nat) (a : Int) (ts : List (Int × Int)), k ≤ n ∧ i = .int .i64 k ∧ x = .int .i64 a ∧ ts.length ≤ k ∧ wr.ownsRow w.heap.size 48 3 v ts.length (turnCells ts) ∧
      Below w.heap.size w wr ∧ lifeTurns 0 0 zs = ts ++ lifeTurns a k (zs.drop k)) (fun _ _ i _ => n - (intOf i).toNat)
  case atStart => exact ⟨0, 0, [], Nat.zero_le _, rfl, rfl, Nat.zero_le _, World.ownsRow_nil _ _ _ _, Below.refl _ _, rfl⟩
  case round =>
    obtain ⟨k, a, ts, hk, rfl, rfl, hle, hown, hbel, htu⟩ := hrel
    have hsz := hbel.size
    have HO := Lib.hid hown; have HBL := Lib.hid hbel; have HT := Lib.hid htu
    clear hown hbel htu
    by_cases hlt : k < n
    · obtain ⟨ad, hkl, rfl, hc⟩ := (H.out.below (HBL.out.mono hB)).int hlt
      have hst := Lib.hid (lifeTurns_step (a := a) (t := (k : Int)) hkl)
      generalize zs[k] = s at *
      by_cases hs : s = a
      · have hb : (s != a) = false := by simp [hs]
        have HS := Lib.hid hs; clear hs
        go_wp2
        go_roundw
        case rel => exact ⟨k + 1, s, ts, by omega, by go_num, rfl, by omega, HO.out, HBL.out, by rw [HT.out, hst.out, if_pos HS.out]; rfl⟩
        case measure => simp [intOf]; omega
      · have hb : (s != a) = true := by simp [hs]
        have HS := Lib.hid hs; clear hs
        generalize hm : ts.length = m at *
        have HM := Lib.hid hm; clear hm
        go_wp2_with (at_builtin; refine wpList_append_own _ rfl (.tmp 17) (.tmp 21) 40 rfl w.heap.size 48 i0 (.agg #[.int .i64 0, .int .i64 0, .slice none 0 0]) 3 40 Try.underlying40 hi hz0 hz1 hz2 rfl (by decide) _ m _ rfl (HO.out.alloc _) ⟨wr.heap.size, 0, none⟩ 1 1 [.int .i64 k, .int .i64 s, .slice none 0 0] rfl rfl ?c1 ?c2 ?c3 ?c4 ?c5 ?_)
        case c1 =>
          intro j u hj
          match j, hj with
          | 0, hj => simp at hj; subst hj; simp [Addr.add]
          | 1, hj => simp at hj; subst hj; simp [Addr.add]
          | 2, hj => simp at hj; subst hj; simp [Addr.add]
        case c2 => intro u hu; simp at hu; rcases hu with rfl | rfl | rfl <;> rfl
        case c3 => unfold maxLen; omega
        case c4 => omega
        case c5 => simp; omega
        intro v' w2 hown' hgrow _
        have R := turns_round HM.out HBL.out hsz HO.out hown' hgrow
        have RR := Lib.hid R; clear R hown' hgrow
        go_wp2
        go_roundw
        case rel => exact ⟨k + 1, s, ts ++ [((k : Int), s)], by omega, by go_num, rfl, by simp [HM.out]; omega, by rw [List.length_append, HM.out]; exact RR.out.1, RR.out.2, by rw [HT.out, hst.out, if_neg HS.out, List.append_assoc]; rfl⟩
        case measure => simp [intOf]; omega
    · obtain rfl : k = n := by omega
      have he : lifeTurns 0 0 zs = ts := by rw [HT.out, List.drop_of_length_le (by rw [HL.out]; exact Nat.le_refl _)]; simp [lifeTurns]
      have HE := Lib.hid he; clear he
      go_wp2
      go_ret
      exact ⟨_, rfl, by rw [HE.out]; exact HO.out, HBL.out⟩
theorem turnCells_get (l : List (Int × Int)) (p : Nat) (h : p < l.length) : (turnCells l)[p * 3]? = some (.int .i64 l[p].1) ∧ (turnCells l)[p * 3 + 1]? = some (.int .i64 l[p].2) ∧ (turnCells l)[p * 3 + 2]? = some (.slice none 0 0) := by
  have e : turnCells l = turnCells (l.take p) ++ (turnCells [l[p]] ++ turnCells (l.drop (p + 1))) := by
    rw [← turnCells_append, ← turnCells_append, List.singleton_append, ← List.drop_eq_getElem_cons h, List.take_append_drop]
  have hl : (turnCells (l.take p)).length = p * 3 := by rw [turnCells_length, List.length_take]; omega
  rw [e]
  refine ⟨?_, ?_, ?_⟩
  · rw [List.getElem?_append_right (by omega), hl, Nat.sub_self]; rfl
  · rw [List.getElem?_append_right (by omega), hl, show p * 3 + 1 - p * 3 = 1 by omega]; rfl
  · rw [List.getElem?_append_right (by omega), hl, show p * 3 + 2 - p * 3 = 2 by omega]; rfl
/-- A turn of a slice of turns: its cells, by its place. -/
theorem Sees.turn {w : World} {B : Nat} {A : Option Addr} {n : Nat} {l : List (Int × Int)} (h : Sees w B 3 A n (turnCells l)) {k : Nat} (hk : k < n) :
    ∃ ad, ∃ hl : k < l.length, A = some ad ∧ w.cell? (ad.add (k * 3)) = some (.int .i64 l[k].1) ∧ w.cell? ⟨(ad.add (k * 3)).block, (ad.add (k * 3)).off + 1, none⟩ = some (.int .i64 l[k].2) ∧ w.cell? ⟨(ad.add (k * 3)).block, (ad.add (k * 3)).off + 2, none⟩ = some (.slice none 0 0) := by
  have hl : k < l.length := by have := h.len; rw [turnCells_length] at this; omega
  obtain ⟨ad, e, _, hc⟩ := h.at_ (by omega)
  obtain ⟨h0, h1, h2⟩ := turnCells_get l k hl
  exact ⟨ad, hl, e, hc _ _ h0, by rw [add_spelt _ _ _ (by omega)]; exact hc _ _ h1, by rw [add_spelt _ _ _ (by omega)]; exact hc _ _ h2⟩
theorem Sees.turn_len {w : World} {B : Nat} {A : Option Addr} {n : Nat} {l : List (Int × Int)} (h : Sees w B 3 A n (turnCells l)) : l.length = n := by
  have := h.len; rw [turnCells_length] at this; omega
theorem lifeTurns_ge (a t : Int) (l : List Int) : ∀ x ∈ lifeTurns a t l, t ≤ x.1 := by
  induction l generalizing a t with
  | nil => simp [lifeTurns]
  | cons s ss ih =>
    intro x hx
    unfold lifeTurns at hx
    split at hx
    · have := ih s (t + 1) x hx; omega
    · rcases List.mem_cons.1 hx with rfl | hx
      · simp
      · have := ih s (t + 1) x hx; omega
end Go.Proofs.Ytokcmppcmobbmaa
