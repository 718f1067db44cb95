/- The walk of LifeTells, out of the contracts. -/
import Derived.Test.YtokcmppcmobbmaaLifeRuns
import Derived.Test.YtokcmppcmobbmaaRowRef
import Derived.Test.YtokcmppcmobbmaaBook
namespace Go.Proofs.Ytokcmppcmobbmaa
open Go.ChangeShapes Go.WideShapes Go.ChangeAt Go.RowKit
set_option linter.unusedVariables false
set_option maxRecDepth 100000
theorem state_is (A : Option Addr) (n c : Nat) (s f k : Int) (r : Nat → Int) (B : Nat) (hn : n ≤ 1000) (hs1 : 1 ≤ s) (hs2 : s ≤ 1000) (t : Nat) (w : World) (h : Reads w B A n r) (ht : t < n) {q : Int} (hq : StateIs r s f k (t + 1) q) :
    Calls Try.prog 10 #[.slice A n c, .int .i64 s, .int .i64 f, .int .i64 k, .int .i64 t] w fun e w' => e = .returned (.int .i64 q) ∧ w = w' :=
  (state_any A n c s f k r B hn hs1 hs2 t w h ht).mono fun e w' ⟨q', h1, h2, h3⟩ => ⟨by rw [h1, h2.uniq hq], h3⟩
theorem Reads.of_own {w : World} {base : Nat} {e : TypeId} {A : Option Addr} {n c : Nat} {r : Nat → Int} (h : w.ownsRow base e 1 (.slice A n c) n (ints ((List.range n).map r))) : Reads w w.heap.size A n r := Sees.of_own h
def lfCells (l : Lf) : List Value := [.int .i64 l.st, .int .i64 l.since, .int .i64 l.last]
theorem tells_row {w w1 wr : World} {base k : Nat} {r : Nat → Int} {v v' : Value} {c : Int} {ob : Obj} {t : TypeId} {cs : List Value} (hb : base < wr.heap.size)
    (hbel : Below base w wr) (hlt : ∀ g, v.ownBlock = some g → base + 1 ≤ g) (hc : r k = c)
    (hown : w1.ownsRow (base + 1) 3 1 v' (k + 1) (ints ((List.range k).map r) ++ [.int .i64 c]))
    (hg : (wr.alloc ob).grownBy w1 v.ownBlock) (hk : Blk wr base t cs) :
    w1.ownsRow (base + 1) 3 1 v' (k + 1) (ints ((List.range (k + 1)).map r)) ∧ Blk w1 base t cs ∧ Below base w w1 := by
  refine ⟨?_, (hk.alloc ob).grown hg (fun h => by have := hlt base h.symm; omega), (hbel.alloc (by omega) ob).grown hg (by simp; omega) (fun g h => by have := hlt g h; omega)⟩
  rw [List.range_succ, List.map_append, ints_append, List.map_singleton, hc]
  exact hown
theorem tells_set {w w1 w2 : World} {base k : Nat} {v : Value} {xs : List Value} {t : TypeId} {a b c : Value} {s' i' a' : Int} (h2 : Below w1.heap.size w1 w2)
    (hown : w1.ownsRow (base + 1) 3 1 v k xs) (hk : Blk w1 base t [a, b, c]) (hb : Below base w w1) :
    (((w2.setCell ⟨base, 0, none⟩ (.int .i64 s')).setCell ⟨base, 1, none⟩ (.int .i64 i')).setCell ⟨base, 2, none⟩ (.int .i64 a')).ownsRow (base + 1) 3 1 v k xs ∧
    Blk (((w2.setCell ⟨base, 0, none⟩ (.int .i64 s')).setCell ⟨base, 1, none⟩ (.int .i64 i')).setCell ⟨base, 2, none⟩ (.int .i64 a')) base t [.int .i64 s', .int .i64 i', .int .i64 a'] ∧
    Below base w (((w2.setCell ⟨base, 0, none⟩ (.int .i64 s')).setCell ⟨base, 1, none⟩ (.int .i64 i')).setCell ⟨base, 2, none⟩ (.int .i64 a')) := by
  have hlt := hk.lt
  refine ⟨own_far (own_far (own_far (own_below hown h2 (Nat.le_refl _)) (Nat.lt_succ_self _) _) (Nat.lt_succ_self _) _) (Nat.lt_succ_self _) _, (((hk.below h2 hlt).set 0 _).set 1 _).set 2 _, ?_⟩
  exact Below.setCell (Below.setCell (Below.setCell (hb.trans (h2.mono (Nat.le_of_lt hlt))) (Nat.le_refl _) _) (Nat.le_refl _) _) (Nat.le_refl _) _
set_option maxHeartbeats 2000000 in
theorem life_tells (A : Option Addr) (n c : Nat) (s0 f0 k0 : Int) (zs : List Int) (w : World) (hl : Sees w w.heap.size 1 A n (ints zs)) (hz : ∀ z ∈ zs, I64 z) (hn : n ≤ 9223372036854775807) (ws : I64 s0) (wf : I64 f0) (wk : I64 k0) :
    Calls Try.prog 3 #[.slice A n c, .int .i64 s0, .int .i64 f0, .int .i64 k0] w fun e w' => e = .returned (.bool true) ∧ Below w.heap.size w w' := by
  have H := Lib.hid hl; clear hl
  have HZ := Lib.hid hz; clear hz
  obtain ⟨r, hr⟩ : ∃ r : Nat → Int, r = fun i => cls (nWithin (zs.getD i 0) 0 8) := ⟨_, rfl⟩
  have HR := Lib.hid hr; clear hr
  obtain ⟨i0, hi, hz0, hz1, hz2⟩ := info_parts Try.infoI
  obtain ⟨hs1, hs2⟩ := nWithin_in s0 (lo := 1) (hi := 9) (by omega)
  obtain ⟨hf1, hf2⟩ := nWithin_in f0 (lo := 0) (hi := 40) (by omega)
  obtain ⟨hk1, hk2⟩ := nWithin_in k0 (lo := 0) (hi := 40) (by omega)
  have WS := Lib.hid ws; have WF := Lib.hid wf; have WK := Lib.hid wk; clear ws wf wk
  go_enter Try.func3, Try.ntmps3
  go_wp2_with fail
  refine (within_any s0 1 9 _ WS.out (by omega) (by omega) (by omega)).mono ?_; rintro e w' ⟨rfl, rfl⟩
  go_wp2_with fail
  refine (within_any f0 0 40 _ WF.out (by omega) (by omega) (by omega)).mono ?_; rintro e w' ⟨rfl, rfl⟩
  go_wp2_with fail
  refine (within_any k0 0 40 _ WK.out (by omega) (by omega) (by omega)).mono ?_; rintro e w' ⟨rfl, rfl⟩
  generalize nWithin s0 1 9 = s at *
  generalize nWithin f0 0 40 = f at *
  generalize nWithin k0 0 40 = q at *
  clear WS WF WK
  go_wp2_with fail
  go_loopw [12, 14, 15] (fun v st j wr => ∃ (k : Nat) (L : Lf), k ≤ n ∧ k ≤ 25 ∧ j = .int .i64 k ∧ st = .int .i64 L.st ∧ wr.ownsRow (w.heap.size + 1) 3 1 v k (ints ((List.range k).map r)) ∧ Blk wr w.heap.size 26 (lfCells L) ∧ Tells r s f q k L ∧ L.ok ∧ Below w.heap.size w wr) (fun _ _ j _ => n - (intOf j).toNat)
  case atStart => exact ⟨0, .zero, Nat.zero_le _, Nat.zero_le _, rfl, rfl, by simpa [ints] using World.ownsRow_nil _ _ _ _, Blk.mk (heap_alloc_new w _), tells_zero r s f q, ⟨⟨by simp [Lf.zero], by simp [Lf.zero]⟩, by simp [Lf.zero], by simp [Lf.zero]⟩, (Below.refl _ _).alloc (Nat.le_refl _) _⟩
  case round =>
    obtain ⟨k, L, hk, hk25, rfl, rfl, hown, hblk, htell, hok, hbel⟩ := hrel
    have hsz := hblk.lt
    have HB := Lib.hid hbel; have HBK := Lib.hid hblk; have HT := Lib.hid htell; have HOK := Lib.hid hok; clear hbel hblk htell hok
    by_cases hlt : k < n ∧ k < 25
    · obtain ⟨hlt, hlt25⟩ := hlt
      obtain ⟨ad, hkl, rfl, hc⟩ := (H.out.below HB.out).int hlt
      have hI := Lib.hid (HZ.out zs[k] (List.getElem_mem _))
      have hx : r k = cls (nWithin zs[k] 0 8) := by rw [HR.out]; show cls (nWithin (zs.getD k 0) 0 8) = _; rw [List.getD_eq_getElem?_getD, List.getElem?_eq_getElem hkl]; rfl
      obtain ⟨hx1, hx2⟩ := nWithin_in zs[k] (lo := 0) (hi := 8) (by omega)
      generalize zs[k] = z at *
      have HX0 := Lib.hid hx; clear hx
      obtain ⟨x, hx⟩ : ∃ x, nWithin z 0 8 = x := ⟨_, rfl⟩
      rw [hx] at hx1 hx2
      have HX : Hid (r k = cls x) := HX0.out.trans (congrArg cls hx)
      have HZX := Lib.hid hx; clear hx HX0
      have HLO := Lib.hid hown.lt
      have HO := Lib.hid hown; clear hown
      have hways : x = 8 ∨ (5 < x ∧ x ≠ 8) ∨ (¬ 5 < x ∧ x ≠ 8) := by omega
      rcases hways with hw | hw | hw
      · have h8 : x = 8 := hw
        subst h8
        have HRK : Hid (r k = 2) := HX.out.trans (by simp [cls])
        go_wp2_with (first
          | (go_at_call 8; refine (within_any _ 0 8 _ hI.out (by omega) (by omega) (by omega)).mono ?_; rintro e w' ⟨rfl, rfl⟩; have hzx := HZX.out; rw [hzx]; clear hzx)
          | (at_builtin; refine wpList_append_own _ rfl _ _ 24 rfl (w.heap.size + 1) 3 i0 (.int .i64 0) 1 8 Try.underlying24 hi hz0 hz1 hz2 rfl (by decide) _ _ _ rfl (HO.out.alloc _) ⟨wr.heap.size, 0, none⟩ 1 1 [.int .i64 2] rfl rfl ?c1 ?c2 ?c3 ?c4 ?c5 ?_))
        case c1 =>
          intro j u hj
          match j, hj with
          | 0, hj => simp at hj; subst hj; simp [Addr.add]
        case c2 => intro u hu; simp at hu; subst hu; rfl
        case c3 => unfold maxLen; omega
        case c4 => omega
        case c5 => simp; omega
        intro v' w1 hown' hgrow _
        have R := tells_row (r := r) (by omega) HB.out (fun g hg => (HLO.out g hg).1) HRK.out hown' hgrow HBK.out
        have HR := Lib.hid R; clear R hown' hgrow HO HLO
        obtain ⟨A1, c1, rfl, hcc1, hcc2⟩ := own_slice HR.out.1
        have HT2 := Lib.hid (tells_err HT.out HRK.out)
        have HOK2 := HOK
        clear HT HOK HBK HB
        obtain ⟨s', i', a'⟩ := L
        simp only [lfCells] at *
        have hc0 : w1.cell? ⟨w.heap.size, 0, none⟩ = some (.int .i64 s') := HR.out.2.1.cell 0
        have hc1' : w1.cell? ⟨w.heap.size, 1, none⟩ = some (.int .i64 i') := HR.out.2.1.cell 1
        have hc2' : w1.cell? ⟨w.heap.size, 2, none⟩ = some (.int .i64 a') := HR.out.2.1.cell 2
        go_wp2_with fail
        refine (state_is A1 (k + 1) c1 s f q r _ (by omega) (by omega) (by omega) k _ (Reads.of_own HR.out.1) (by omega) HT2.out.state).mono ?_; rintro e w' ⟨rfl, rfl⟩
        have hne : (s' != s') = false := by simp
        by_cases h0 : s' = 0
        · have hz := (HT2.out.off h0).1
          simp only [Lf.zero, Lf.mk.injEq] at hz
          obtain ⟨rfl, rfl, rfl⟩ := hz
          clear h0
          by_cases hf0 : f = 0
          · subst hf0
            go_wp2_with fail
            go_roundw
            case rel => exact ⟨k + 1, ⟨0, 0, 0⟩, by omega, by omega, by go_num, rfl, HR.out.1, HR.out.2.1, HT2.out, HOK2.out, HR.out.2.2⟩
            case measure => simp [intOf]; omega
          · have hfb : (f == 0) = false := by simpa using hf0
            clear hf0
            go_wp2_with fail
            go_roundw
            case rel => exact ⟨k + 1, ⟨0, 0, 0⟩, by omega, by omega, by go_num, rfl, HR.out.1, HR.out.2.1, HT2.out, HOK2.out, HR.out.2.2⟩
            case measure => simp [intOf]; omega
        · have h0b : (s' == 0) = false := by simpa using h0
          clear h0
          by_cases hf0 : f = 0
          · subst hf0
            have h1b : (s' == 1) = false := by have := HT2.out.quick; simpa using this
            go_wp2_with fail
            go_roundw
            case rel => exact ⟨k + 1, ⟨s', i', a'⟩, by omega, by omega, by go_num, rfl, HR.out.1, HR.out.2.1, HT2.out, HOK2.out, HR.out.2.2⟩
            case measure => simp [intOf]; omega
          · have hfb : (f == 0) = false := by simpa using hf0
            clear hf0
            go_wp2_with fail
            go_roundw
            case rel => exact ⟨k + 1, ⟨s', i', a'⟩, by omega, by omega, by go_num, rfl, HR.out.1, HR.out.2.1, HT2.out, HOK2.out, HR.out.2.2⟩
            case measure => simp [intOf]; omega
      · obtain ⟨h5, h8⟩ := hw
        have h8b : (x == 8) = false := by simpa using h8
        have HRK : Hid (r k = 0) := HX.out.trans (by simp [cls, h5, h8])
        go_wp2_with (first
          | (go_at_call 8; refine (within_any _ 0 8 _ hI.out (by omega) (by omega) (by omega)).mono ?_; rintro e w' ⟨rfl, rfl⟩; have hzx := HZX.out; rw [hzx]; clear hzx)
          | (at_builtin; refine wpList_append_own _ rfl _ _ 24 rfl (w.heap.size + 1) 3 i0 (.int .i64 0) 1 8 Try.underlying24 hi hz0 hz1 hz2 rfl (by decide) _ _ _ rfl (HO.out.alloc _) ⟨wr.heap.size, 0, none⟩ 1 1 [.int .i64 0] rfl rfl ?c1 ?c2 ?c3 ?c4 ?c5 ?_))
        case c1 =>
          intro j u hj
          match j, hj with
          | 0, hj => simp at hj; subst hj; simp [Addr.add]
        case c2 => intro u hu; simp at hu; subst hu; rfl
        case c3 => unfold maxLen; omega
        case c4 => omega
        case c5 => simp; omega
        intro v' w1 hown' hgrow _
        have R := tells_row (r := r) (by omega) HB.out (fun g hg => (HLO.out g hg).1) HRK.out hown' hgrow HBK.out
        have HR := Lib.hid R; clear R hown' hgrow HO HLO
        obtain ⟨A1, c1, rfl, hcc1, hcc2⟩ := own_slice HR.out.1
        have HT2 := Lib.hid (tells_not (s := s) (f := f) (k := q) (by omega) (by omega) HT.out HRK.out)
        have HC := Lib.hid fun w => next_any L k s f q false w HOK.out ⟨by omega, by omega⟩ (by unfold I64; omega) (by unfold I64; omega) (by unfold I64; omega)
        have HOK2 := Lib.hid (next_ok (step := s) (long := f) (keep := q) (holds := false) HOK.out (show Tk (k : Int) from ⟨by omega, by omega⟩))
        generalize L.next k s f q false = L2 at *
        have hc0 : w1.cell? ⟨w.heap.size, 0, none⟩ = some (.int .i64 L.st) := HR.out.2.1.cell 0
        have hc1' : w1.cell? ⟨w.heap.size, 1, none⟩ = some (.int .i64 L.since) := HR.out.2.1.cell 1
        have hc2' : w1.cell? ⟨w.heap.size, 2, none⟩ = some (.int .i64 L.last) := HR.out.2.1.cell 2
        obtain ⟨s', i', a'⟩ := L2
        simp only [Lf.val] at *
        clear HT HBK HB
        go_wp2_with fail
        refine (HC.out _).mono ?_; rintro e w2 ⟨rfl, hb2⟩
        have hbk2 := HR.out.2.1.below hb2 HR.out.2.1.lt
        have hd0 : w2.cell? ⟨w.heap.size, 0, none⟩ = some (.int .i64 L.st) := hbk2.cell 0
        have hd1 : w2.cell? ⟨w.heap.size, 1, none⟩ = some (.int .i64 L.since) := hbk2.cell 1
        have hd2 : w2.cell? ⟨w.heap.size, 2, none⟩ = some (.int .i64 L.last) := hbk2.cell 2
        have hfz : ∀ x, w2.frozen? ⟨w.heap.size, x, none⟩ = false := fun x => hbk2.frozen x
        have hgl := hbk2.lt
        have hset := tells_set (s' := s') (i' := i') (a' := a') hb2 HR.out.1 HR.out.2.1 HR.out.2.2
        have HSET := Lib.hid hset
        clear hbk2 hb2 hset hc0 hc1' hc2' HR
        go_wp2_with fail
        refine (state_is A1 (k + 1) c1 s f q r _ (by omega) (by omega) (by omega) k _ (Reads.of_own HSET.out.1) (by omega) HT2.out.state).mono ?_; rintro e w' ⟨rfl, rfl⟩
        clear hd0 hd1 hd2 hfz hgl
        generalize (((w2.setCell ⟨w.heap.size, 0, none⟩ (.int .i64 s')).setCell ⟨w.heap.size, 1, none⟩ (.int .i64 i')).setCell ⟨w.heap.size, 2, none⟩ (.int .i64 a')) = W at *
        have HR := HSET
        have hc0 : W.cell? ⟨w.heap.size, 0, none⟩ = some (.int .i64 s') := HR.out.2.1.cell 0
        have hc1' : W.cell? ⟨w.heap.size, 1, none⟩ = some (.int .i64 i') := HR.out.2.1.cell 1
        have hc2' : W.cell? ⟨w.heap.size, 2, none⟩ = some (.int .i64 a') := HR.out.2.1.cell 2
        have hne : (s' != s') = false := by simp
        by_cases h0 : s' = 0
        · have hz := (HT2.out.off h0).1
          simp only [Lf.zero, Lf.mk.injEq] at hz
          obtain ⟨rfl, rfl, rfl⟩ := hz
          clear h0
          by_cases hf0 : f = 0
          · subst hf0
            go_wp2_with fail
            go_roundw
            case rel => exact ⟨k + 1, ⟨0, 0, 0⟩, by omega, by omega, by go_num, rfl, HR.out.1, HR.out.2.1, HT2.out, HOK2.out, HR.out.2.2⟩
            case measure => simp [intOf]; omega
          · have hfb : (f == 0) = false := by simpa using hf0
            clear hf0
            go_wp2_with fail
            go_roundw
            case rel => exact ⟨k + 1, ⟨0, 0, 0⟩, by omega, by omega, by go_num, rfl, HR.out.1, HR.out.2.1, HT2.out, HOK2.out, HR.out.2.2⟩
            case measure => simp [intOf]; omega
        · have h0b : (s' == 0) = false := by simpa using h0
          clear h0
          by_cases hf0 : f = 0
          · subst hf0
            have h1b : (s' == 1) = false := by have := HT2.out.quick; simpa using this
            go_wp2_with fail
            go_roundw
            case rel => exact ⟨k + 1, ⟨s', i', a'⟩, by omega, by omega, by go_num, rfl, HR.out.1, HR.out.2.1, HT2.out, HOK2.out, HR.out.2.2⟩
            case measure => simp [intOf]; omega
          · have hfb : (f == 0) = false := by simpa using hf0
            clear hf0
            go_wp2_with fail
            go_roundw
            case rel => exact ⟨k + 1, ⟨s', i', a'⟩, by omega, by omega, by go_num, rfl, HR.out.1, HR.out.2.1, HT2.out, HOK2.out, HR.out.2.2⟩
            case measure => simp [intOf]; omega
      · obtain ⟨h5, h8⟩ := hw
        have h8b : (x == 8) = false := by simpa using h8
        have HRK : Hid (r k = 1) := HX.out.trans (by simp [cls, h5, h8])
        go_wp2_with (first
          | (go_at_call 8; refine (within_any _ 0 8 _ hI.out (by omega) (by omega) (by omega)).mono ?_; rintro e w' ⟨rfl, rfl⟩; have hzx := HZX.out; rw [hzx]; clear hzx)
          | (at_builtin; refine wpList_append_own _ rfl _ _ 24 rfl (w.heap.size + 1) 3 i0 (.int .i64 0) 1 8 Try.underlying24 hi hz0 hz1 hz2 rfl (by decide) _ _ _ rfl (HO.out.alloc _) ⟨wr.heap.size, 0, none⟩ 1 1 [.int .i64 1] rfl rfl ?c1 ?c2 ?c3 ?c4 ?c5 ?_))
        case c1 =>
          intro j u hj
          match j, hj with
          | 0, hj => simp at hj; subst hj; simp [Addr.add]
        case c2 => intro u hu; simp at hu; subst hu; rfl
        case c3 => unfold maxLen; omega
        case c4 => omega
        case c5 => simp; omega
        intro v' w1 hown' hgrow _
        have R := tells_row (r := r) (by omega) HB.out (fun g hg => (HLO.out g hg).1) HRK.out hown' hgrow HBK.out
        have HR := Lib.hid R; clear R hown' hgrow HO HLO
        obtain ⟨A1, c1, rfl, hcc1, hcc2⟩ := own_slice HR.out.1
        have HT2 := Lib.hid (tells_hold (s := s) (f := f) (k := q) (by omega) (by omega) (by omega) HT.out HRK.out)
        have HC := Lib.hid fun w => next_any L k s f q true w HOK.out ⟨by omega, by omega⟩ (by unfold I64; omega) (by unfold I64; omega) (by unfold I64; omega)
        have HOK2 := Lib.hid (next_ok (step := s) (long := f) (keep := q) (holds := true) HOK.out (show Tk (k : Int) from ⟨by omega, by omega⟩))
        generalize L.next k s f q true = L2 at *
        have hc0 : w1.cell? ⟨w.heap.size, 0, none⟩ = some (.int .i64 L.st) := HR.out.2.1.cell 0
        have hc1' : w1.cell? ⟨w.heap.size, 1, none⟩ = some (.int .i64 L.since) := HR.out.2.1.cell 1
        have hc2' : w1.cell? ⟨w.heap.size, 2, none⟩ = some (.int .i64 L.last) := HR.out.2.1.cell 2
        obtain ⟨s', i', a'⟩ := L2
        simp only [Lf.val] at *
        clear HT HBK HB
        go_wp2_with fail
        refine (HC.out _).mono ?_; rintro e w2 ⟨rfl, hb2⟩
        have hbk2 := HR.out.2.1.below hb2 HR.out.2.1.lt
        have hd0 : w2.cell? ⟨w.heap.size, 0, none⟩ = some (.int .i64 L.st) := hbk2.cell 0
        have hd1 : w2.cell? ⟨w.heap.size, 1, none⟩ = some (.int .i64 L.since) := hbk2.cell 1
        have hd2 : w2.cell? ⟨w.heap.size, 2, none⟩ = some (.int .i64 L.last) := hbk2.cell 2
        have hfz : ∀ x, w2.frozen? ⟨w.heap.size, x, none⟩ = false := fun x => hbk2.frozen x
        have hgl := hbk2.lt
        have hset := tells_set (s' := s') (i' := i') (a' := a') hb2 HR.out.1 HR.out.2.1 HR.out.2.2
        have HSET := Lib.hid hset
        clear hbk2 hb2 hset hc0 hc1' hc2' HR
        go_wp2_with fail
        refine (state_is A1 (k + 1) c1 s f q r _ (by omega) (by omega) (by omega) k _ (Reads.of_own HSET.out.1) (by omega) HT2.out.state).mono ?_; rintro e w' ⟨rfl, rfl⟩
        clear hd0 hd1 hd2 hfz hgl
        generalize (((w2.setCell ⟨w.heap.size, 0, none⟩ (.int .i64 s')).setCell ⟨w.heap.size, 1, none⟩ (.int .i64 i')).setCell ⟨w.heap.size, 2, none⟩ (.int .i64 a')) = W at *
        have HR := HSET
        have hc0 : W.cell? ⟨w.heap.size, 0, none⟩ = some (.int .i64 s') := HR.out.2.1.cell 0
        have hc1' : W.cell? ⟨w.heap.size, 1, none⟩ = some (.int .i64 i') := HR.out.2.1.cell 1
        have hc2' : W.cell? ⟨w.heap.size, 2, none⟩ = some (.int .i64 a') := HR.out.2.1.cell 2
        have hne : (s' != s') = false := by simp
        by_cases h0 : s' = 0
        · have hz := (HT2.out.off h0).1
          simp only [Lf.zero, Lf.mk.injEq] at hz
          obtain ⟨rfl, rfl, rfl⟩ := hz
          clear h0
          by_cases hf0 : f = 0
          · subst hf0
            go_wp2_with fail
            go_roundw
            case rel => exact ⟨k + 1, ⟨0, 0, 0⟩, by omega, by omega, by go_num, rfl, HR.out.1, HR.out.2.1, HT2.out, HOK2.out, HR.out.2.2⟩
            case measure => simp [intOf]; omega
          · have hfb : (f == 0) = false := by simpa using hf0
            clear hf0
            go_wp2_with fail
            go_roundw
            case rel => exact ⟨k + 1, ⟨0, 0, 0⟩, by omega, by omega, by go_num, rfl, HR.out.1, HR.out.2.1, HT2.out, HOK2.out, HR.out.2.2⟩
            case measure => simp [intOf]; omega
        · have h0b : (s' == 0) = false := by simpa using h0
          clear h0
          by_cases hf0 : f = 0
          · subst hf0
            have h1b : (s' == 1) = false := by have := HT2.out.quick; simpa using this
            go_wp2_with fail
            go_roundw
            case rel => exact ⟨k + 1, ⟨s', i', a'⟩, by omega, by omega, by go_num, rfl, HR.out.1, HR.out.2.1, HT2.out, HOK2.out, HR.out.2.2⟩
            case measure => simp [intOf]; omega
          · have hfb : (f == 0) = false := by simpa using hf0
            clear hf0
            go_wp2_with fail
            go_roundw
            case rel => exact ⟨k + 1, ⟨s', i', a'⟩, by omega, by omega, by go_num, rfl, HR.out.1, HR.out.2.1, HT2.out, HOK2.out, HR.out.2.2⟩
            case measure => simp [intOf]; omega

    · obtain ⟨A1, c1, rfl, hc1, hc2⟩ := own_slice hown
      clear hown
      have hge : ¬ ((k : Int) < n ∧ (k : Int) < 25) := by omega
      by_cases hlt : k < n
      all_goals
        go_wp2_with fail
        refine (life_runs _).mono ?_; rintro e w4 ⟨rfl, hbel⟩
        have HB4 := Lib.hid (HB.out.trans (hbel.mono (by have := HB.out.size; omega))); clear hbel
        go_wp2_with fail
        go_ret
        exact ⟨rfl, HB4.out⟩
end Go.Proofs.Ytokcmppcmobbmaa
