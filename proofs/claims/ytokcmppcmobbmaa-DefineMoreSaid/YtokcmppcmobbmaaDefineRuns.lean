/- Chapter 16's run, and the rows that its laws make. -/
import Derived.Test.YtokcmppcmobbmaaDefine
import Derived.Test.YtokcmppcmobbmaaLifeRuns
import Derived.Test.YtokcmppcmobbmaaBook
namespace Go.Proofs.Ytokcmppcmobbmaa
open Go.ChangeShapes Go.WideShapes Go.ChangeAt Go.RowKit
set_option linter.unusedVariables false
set_option maxRecDepth 100000
variable {P : Prop}
theorem ans_is {p : Program} {f : FuncId} {args : Array Value} {w : World} {q : Bool} (hq : q = true ↔ P) (h : Calls p f args w (Answers P w)) :
    Calls p f args w fun e w' => e = .returned (.bool q) ∧ w = w' :=
  h.mono fun e w' ⟨q', h1, h2, h3⟩ => ⟨by rw [h1]; congr 2; rw [Bool.eq_iff_iff, h2, hq], h3⟩
theorem stateAns_is {p : Program} {f : FuncId} {args : Array Value} {r : Nat → Int} {s g k : Int} {n : Nat} {w : World} {q : Int} (hq : StateIs r s g k n q) (h : Calls p f args w (StateAns r s g k n w)) :
    Calls p f args w fun e w' => e = .returned (.int .i64 q) ∧ w = w' :=
  h.mono fun e w' ⟨q', h1, h2, h3⟩ => ⟨by rw [h1, h2.uniq hq], h3⟩
theorem bool_of (P : Prop) : ∃ q : Bool, q = true ↔ P := by classical exact ⟨decide P, by simp⟩
theorem state_of (r : Nat → Int) (s f k : Int) (n : Nat) : ∃ q, StateIs r s f k n q := by
  classical
  by_cases h : Fires r s f k n
  · exact ⟨2, .inl ⟨rfl, h⟩⟩
  · by_cases h1 : ∃ m, Lst r n m ∧ r m = 1
    · exact ⟨1, .inr ⟨h, .inl ⟨rfl, h1⟩⟩⟩
    · exact ⟨0, .inr ⟨h, .inr ⟨rfl, fun m hm hr => h1 ⟨m, hm, hr⟩⟩⟩⟩
theorem Reads.drewN {w : World} {B : Nat} {A : Option Addr} {n : Nat} {r : Nat → Int} (h : Reads w B A n r) (k : Nat) : Reads (w.drewN k) B A n r := Sees.drewN h k
theorem Reads.of_own {w : World} {base : Nat} {e : TypeId} {A : Option Addr} {n c : Nat} {r : Nat → Int} (h : w.ownsRow base e 1 (.slice A n c) n (ints ((List.range n).map r))) : Reads w w.heap.size A n r := Sees.of_own h
/-- The rows of the chapter's run. -/
def ra (i : Nat) : Int := [1, 1, 1, 0].getD i 0
def rb (i : Nat) : Int := [1, 2, 1].getD i 0
theorem ra_0 : Fires ra 10 20 0 (2 + 1) := (fires_known (m := 2) ⟨by omega, by simp [ra], fun i h1 h2 => by omega⟩).2 ⟨2, by omega, rfl, fun i h1 h2 => by omega, 0, by omega, rfl, by omega, fun i h1 h2 => by
  match i, h2 with
  | 0, _ => simp [ra]
  | 1, _ => simp [ra]
  | 2, _ => simp [ra]⟩
theorem ra_3 : ¬ Fires ra 10 20 0 (3 + 1) := by
  rw [fires_known (m := 3) ⟨by omega, by simp [ra], fun i h1 h2 => by omega⟩]
  rintro ⟨b, h1, h2, h3, _⟩
  have hb : b < 3 := by
    rcases Nat.lt_or_ge b 3 with h | h
    · exact h
    · rw [show b = 3 by omega] at h2; simp [ra] at h2
  rcases h3 3 hb (Nat.le_refl _) with h | ⟨j, h4, h5, h6, h7⟩
  · simp [ra] at h
  · have : j = 3 := by omega
    subst this
    simp [ra] at h6
theorem ra_1 : ¬ Fires ra 10 20 0 (1 + 1) := by
  rw [fires_known (m := 1) ⟨by omega, by simp [ra], fun i h1 h2 => by omega⟩]
  rintro ⟨b, h1, h2, h3, a, h4, h5, h6, h7⟩
  omega
theorem rb_2 : Fires rb 10 20 0 (2 + 1) := (fires_known (m := 2) ⟨by omega, by simp [rb], fun i h1 h2 => by omega⟩).2 ⟨2, by omega, rfl, fun i h1 h2 => by omega, 0, by omega, rfl, by omega, fun i h1 h2 => by
  match i, h2 with
  | 0, _ => simp [rb]
  | 1, _ => simp [rb]
  | 2, _ => simp [rb]⟩
theorem rb_1 : StateIs rb 10 20 0 (1 + 1) 1 := by
  have hl : Lst rb (1 + 1) 0 := ⟨by omega, by simp [rb], fun i h1 h2 => by rw [show i = 1 by omega]; rfl⟩
  refine .inr ⟨?_, .inl ⟨rfl, 0, hl, rfl⟩⟩
  rw [fires_known hl]
  rintro ⟨b, h1, h2, h3, a, h4, h5, h6, h7⟩
  omega
theorem define_runs (w : World) : Calls Try.prog 4 #[] w fun e w' => e = .returned (.bool true) ∧ Below w.heap.size w w' := by
  have HA : ∀ w2, w2 = (w.alloc (.cells #[.int .i64 1, .int .i64 1, .int .i64 1, .int .i64 0] 3)).alloc (.cells #[.int .i64 1, .int .i64 2, .int .i64 1] 3) → Reads w2 w2.heap.size (some ⟨w.heap.size, 0, none⟩) 4 ra ∧ Reads w2 w2.heap.size (some ⟨w.heap.size + 1, 0, none⟩) 3 rb := by
    rintro _ rfl
    have b1 : Blk (w.alloc (.cells #[.int .i64 1, .int .i64 1, .int .i64 1, .int .i64 0] 3)) w.heap.size 3 [.int .i64 1, .int .i64 1, .int .i64 1, .int .i64 0] := Blk.mk (heap_alloc_new w _)
    have b2 : Blk ((w.alloc (.cells #[.int .i64 1, .int .i64 1, .int .i64 1, .int .i64 0] 3)).alloc (.cells #[.int .i64 1, .int .i64 2, .int .i64 1] 3)) (w.heap.size + 1) 3 [.int .i64 1, .int .i64 2, .int .i64 1] := Blk.mk (by
      have := heap_alloc_new (w.alloc (.cells #[.int .i64 1, .int .i64 1, .int .i64 1, .int .i64 0] 3)) (.cells #[.int .i64 1, .int .i64 2, .int .i64 1] 3)
      simpa using this)
    exact ⟨(b1.alloc _).sees rfl (List.prefix_refl _), b2.sees rfl (List.prefix_refl _)⟩
  have HR := Lib.hid HA; clear HA
  go_enter Try.func4, Try.ntmps4
  go_wp2_with fail
  refine (ans_is (q := true) (by simp [ra_0]) (dfires_any _ 4 _ 10 20 0 ra _ _ (HR.out _ rfl).1 (by omega) (by omega) (by omega) (by omega) (by omega) (by unfold I64; omega) (by unfold I64; omega) 2 (by omega))).mono ?_; rintro e w' ⟨rfl, rfl⟩
  go_wp2_with fail
  refine (ans_is (q := false) (by simp [ra_3]) (dfires_any _ 4 _ 10 20 0 ra _ _ (HR.out _ rfl).1 (by omega) (by omega) (by omega) (by omega) (by omega) (by unfold I64; omega) (by unfold I64; omega) 3 (by omega))).mono ?_; rintro e w' ⟨rfl, rfl⟩
  go_wp2_with fail
  refine (ans_is (q := false) (by simp [ra_1]) (dfires_any _ 4 _ 10 20 0 ra _ _ (HR.out _ rfl).1 (by omega) (by omega) (by omega) (by omega) (by omega) (by unfold I64; omega) (by unfold I64; omega) 1 (by omega))).mono ?_; rintro e w' ⟨rfl, rfl⟩
  go_wp2_with fail
  refine (ans_is (q := true) (by simp [rb_2]) (dfires_any _ 3 _ 10 20 0 rb _ _ (HR.out _ rfl).2 (by omega) (by omega) (by omega) (by omega) (by omega) (by unfold I64; omega) (by unfold I64; omega) 2 (by omega))).mono ?_; rintro e w' ⟨rfl, rfl⟩
  go_wp2_with fail
  refine (stateAns_is rb_1 (dstate_any _ 3 _ 10 20 0 rb _ _ (HR.out _ rfl).2 (by omega) (by omega) (by omega) (by omega) (by omega) (by unfold I64; omega) (by unfold I64; omega) 1 (by omega))).mono ?_; rintro e w' ⟨rfl, rfl⟩
  go_wp2_with fail
  go_ret
  exact ⟨rfl, ((Below.refl _ _).alloc (Nat.le_refl _) _).alloc (by simp) _⟩

/-- A row in new memory. -/
def RowAns (m : Nat) (r : Nat → Int) (w : World) (e : Ending) (w' : World) : Prop := ∃ A c, e = .returned (.slice A m c) ∧ w'.ownsRow w.heap.size 3 1 (.slice A m c) m (ints ((List.range m).map r)) ∧ Below w.heap.size w w' ∧ m ≤ c ∧ c ≤ 9223372036854775807
theorem row_step {w w1 wr : World} {base k : Nat} {r : Nat → Int} {v v' : Value} {c : Int} {ob : Obj} (hb : base ≤ wr.heap.size) (hbel : Below base w wr) (hlt : ∀ g, v.ownBlock = some g → base ≤ g) (hc : r k = c)
    (hown : w1.ownsRow base 3 1 v' (k + 1) (ints ((List.range k).map r) ++ [.int .i64 c])) (hg : (wr.alloc ob).grownBy w1 v.ownBlock) :
    w1.ownsRow base 3 1 v' (k + 1) (ints ((List.range (k + 1)).map r)) ∧ Below base w w1 := by
  refine ⟨?_, (hbel.alloc hb ob).grown hg (by simp; omega) hlt⟩
  rw [List.range_succ, List.map_append, ints_append, List.map_singleton, hc]
  exact hown
theorem rowAns {m k : Nat} {r : Nat → Int} {w w' : World} {v : Value} (hown : w'.ownsRow w.heap.size 3 1 v k (ints ((List.range k).map r))) (hb : Below w.heap.size w w') (hm : m = k) : RowAns m r w (.returned v) w' := by
  subst hm
  obtain ⟨A, c, rfl, h1, h2⟩ := own_slice hown
  exact ⟨A, c, rfl, hown, hb, h1, h2⟩
set_option maxHeartbeats 1000000 in
theorem row_any (A : Option Addr) (n c : Nat) (zs : List Int) (r : Nat → Int) (w : World) (hl : Sees w w.heap.size 1 A n (ints zs)) (hz : ∀ z ∈ zs, I64 z) (hn : n ≤ 9223372036854775807) (hr : ∀ i (h : i < zs.length), r i = cls (nWithin zs[i] 0 8)) :
    Calls Try.prog 14 #[.slice A n c] w (RowAns (min n 24) r w) := by
  have H := Lib.hid hl; have HZ := Lib.hid hz; have HR := Lib.hid hr; clear hl hz hr
  obtain ⟨i0, hi, hz0, hz1, hz2⟩ := info_parts Try.infoI
  generalize hm : min n 24 = m
  have HM := Lib.hid hm; clear hm
  go_enter Try.func14, Try.ntmps14
  go_wp2_with fail
  go_loopw [3, 4] (fun v j wr => ∃ k : Nat, k ≤ n ∧ k ≤ 24 ∧ j = .int .i64 k ∧ wr.ownsRow w.heap.size 3 1 v k (ints ((List.range k).map r)) ∧ Below w.heap.size w wr) (fun _ j _ => n - (intOf j).toNat)
  case atStart => exact ⟨0, Nat.zero_le _, Nat.zero_le _, rfl, by simpa [ints] using World.ownsRow_nil _ _ _ _, Below.refl _ _⟩
  case round =>
    obtain ⟨k, hk, hk24, rfl, hown, hbel⟩ := hrel
    have hsz := hbel.size
    have HB := Lib.hid hbel; clear hbel
    by_cases hlt : k < n ∧ k < 24
    · obtain ⟨hlt, hlt24⟩ := hlt
      obtain ⟨ad, hkl, rfl, hc⟩ := (H.out.below HB.out).int hlt
      have hI := Lib.hid (HZ.out zs[k] (List.getElem_mem _))
      have hx := HR.out k hkl
      obtain ⟨hx1, hx2⟩ := nWithin_in zs[k] (lo := 0) (hi := 8) (by omega)
      generalize zs[k] = z at *
      have HX0 := Lib.hid hx; clear hx
      obtain ⟨x, hx⟩ : ∃ x, nWithin z 0 8 = x := ⟨_, rfl⟩
      rw [hx] at hx1 hx2
      have HX : Hid (r k = cls x) := HX0.out.trans (congrArg cls hx)
      have HZX := Lib.hid hx; clear hx HX0
      have HLO := Lib.hid hown.lt
      have HO := Lib.hid hown; clear hown
      have hways : x = 8 ∨ (5 < x ∧ x ≠ 8) ∨ (¬ 5 < x ∧ x ≠ 8) := by omega
      rcases hways with hw | hw | hw
      · have h8 : x = 8 := hw
        subst h8
        have HRK : Hid (r k = 2) := HX.out.trans (by simp [cls])
        go_wp2_with (first
          | (go_at_call 8; refine (within_any _ 0 8 _ hI.out (by omega) (by omega) (by omega)).mono ?_; rintro e w' ⟨rfl, rfl⟩; have hzx := HZX.out; rw [hzx]; clear hzx)
          | (at_builtin; refine wpList_append_own _ rfl _ _ 24 rfl w.heap.size 3 i0 (.int .i64 0) 1 8 Try.underlying24 hi hz0 hz1 hz2 rfl (by decide) _ _ _ rfl (HO.out.alloc _) ⟨wr.heap.size, 0, none⟩ 1 1 [.int .i64 2] rfl rfl ?c1 ?c2 ?c3 ?c4 ?c5 ?_))
        case c1 =>
          intro j u hj
          match j, hj with
          | 0, hj => simp at hj; subst hj; simp [Addr.add]
        case c2 => intro u hu; simp at hu; subst hu; rfl
        case c3 => unfold maxLen; omega
        case c4 => omega
        case c5 => simp; omega
        intro v' w1 hown' hgrow _
        have R := row_step (r := r) (by omega) HB.out (fun g hg => (HLO.out g hg).1) HRK.out hown' hgrow
        have HR := Lib.hid R; clear R hown' hgrow HO HLO
        go_wp2_with fail
        go_roundw
        case rel => exact ⟨k + 1, by omega, by omega, by go_num, HR.out.1, HR.out.2⟩
        case measure => simp [intOf]; omega
      · obtain ⟨h5, h8⟩ := hw
        have h8b : (x == 8) = false := by simpa using h8
        have HRK : Hid (r k = 0) := HX.out.trans (by simp [cls, h5, h8])
        go_wp2_with (first
          | (go_at_call 8; refine (within_any _ 0 8 _ hI.out (by omega) (by omega) (by omega)).mono ?_; rintro e w' ⟨rfl, rfl⟩; have hzx := HZX.out; rw [hzx]; clear hzx)
          | (at_builtin; refine wpList_append_own _ rfl _ _ 24 rfl w.heap.size 3 i0 (.int .i64 0) 1 8 Try.underlying24 hi hz0 hz1 hz2 rfl (by decide) _ _ _ rfl (HO.out.alloc _) ⟨wr.heap.size, 0, none⟩ 1 1 [.int .i64 0] rfl rfl ?c1 ?c2 ?c3 ?c4 ?c5 ?_))
        case c1 =>
          intro j u hj
          match j, hj with
          | 0, hj => simp at hj; subst hj; simp [Addr.add]
        case c2 => intro u hu; simp at hu; subst hu; rfl
        case c3 => unfold maxLen; omega
        case c4 => omega
        case c5 => simp; omega
        intro v' w1 hown' hgrow _
        have R := row_step (r := r) (by omega) HB.out (fun g hg => (HLO.out g hg).1) HRK.out hown' hgrow
        have HR := Lib.hid R; clear R hown' hgrow HO HLO
        go_wp2_with fail
        go_roundw
        case rel => exact ⟨k + 1, by omega, by omega, by go_num, HR.out.1, HR.out.2⟩
        case measure => simp [intOf]; omega
      · obtain ⟨h5, h8⟩ := hw
        have h8b : (x == 8) = false := by simpa using h8
        have HRK : Hid (r k = 1) := HX.out.trans (by simp [cls, h5, h8])
        go_wp2_with (first
          | (go_at_call 8; refine (within_any _ 0 8 _ hI.out (by omega) (by omega) (by omega)).mono ?_; rintro e w' ⟨rfl, rfl⟩; have hzx := HZX.out; rw [hzx]; clear hzx)
          | (at_builtin; refine wpList_append_own _ rfl _ _ 24 rfl w.heap.size 3 i0 (.int .i64 0) 1 8 Try.underlying24 hi hz0 hz1 hz2 rfl (by decide) _ _ _ rfl (HO.out.alloc _) ⟨wr.heap.size, 0, none⟩ 1 1 [.int .i64 1] rfl rfl ?c1 ?c2 ?c3 ?c4 ?c5 ?_))
        case c1 =>
          intro j u hj
          match j, hj with
          | 0, hj => simp at hj; subst hj; simp [Addr.add]
        case c2 => intro u hu; simp at hu; subst hu; rfl
        case c3 => unfold maxLen; omega
        case c4 => omega
        case c5 => simp; omega
        intro v' w1 hown' hgrow _
        have R := row_step (r := r) (by omega) HB.out (fun g hg => (HLO.out g hg).1) HRK.out hown' hgrow
        have HR := Lib.hid R; clear R hown' hgrow HO HLO
        go_wp2_with fail
        go_roundw
        case rel => exact ⟨k + 1, by omega, by omega, by go_num, HR.out.1, HR.out.2⟩
        case measure => simp [intOf]; omega

    · have hge : ¬ ((k : Int) < n ∧ (k : Int) < 24) := by omega
      have HO := Lib.hid hown; clear hown
      by_cases hlt : k < n
      all_goals
        go_wp2_with fail
        go_ret
        exact rowAns HO.out HB.out (by rw [← HM.out]; omega)
end Go.Proofs.Ytokcmppcmobbmaa
