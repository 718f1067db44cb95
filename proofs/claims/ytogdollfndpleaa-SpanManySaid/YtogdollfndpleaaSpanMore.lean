/- Package span: Has, Ticks. -/
import Derived.Test.YtogdollfndpleaaSpanRuns
namespace Go.Proofs.Ytogdollfndpleaa
open Go.ChangeShapes Go.WideShapes Go.ChangeAt Go.RowKit
set_option linter.unusedVariables false
set_option maxRecDepth 100000
def hasF (l : List (Int × Int)) (t : Int) : Bool := l.any fun x => decide (x.1 ≤ t) && decide (t ≤ x.2)
theorem hasF_step {l : List (Int × Int)} {k : Nat} (h : k < l.length) (t : Int) : hasF (l.take (k + 1)) t = (hasF (l.take k) t || (decide (l[k].1 ≤ t) && decide (t ≤ l[k].2))) := by
  unfold hasF
  rw [List.take_succ_eq_append_getElem h, List.any_append]
  simp
theorem hasF_of {l : List (Int × Int)} {k : Nat} (h : k < l.length) {t : Int} (h1 : l[k].1 ≤ t) (h2 : t ≤ l[k].2) : hasF l t = true := by
  unfold hasF
  rw [List.any_eq_true]
  exact ⟨l[k], List.getElem_mem _, by simp [h1, h2]⟩
set_option maxHeartbeats 1000000 in
theorem has_any (A : Option Addr) (n c : Nat) (zs : List (Int × Int)) (t : Int) (B : Nat) (w : World) (h : Sees w B 2 A n (smps zs)) (hB : B ≤ w.heap.size) (hn : n ≤ 100000) :
    Calls Try.prog 9 #[.slice A n c, .int .i64 t] w fun e w' => e = .returned (.bool (hasF zs t)) ∧ Below w.heap.size w w' := by
  have H := Lib.hid h; clear h
  have HL := Lib.hid H.out.smp_len
  go_enter Try.func9, Try.ntmps9
  go_wp2_with fail
  go_loopw [9] (fun i wr => ∃ k : Nat, k ≤ n ∧ i = .int .i64 k ∧ Below w.heap.size w wr ∧ hasF (zs.take k) t = false) (fun i _ => n - (intOf i).toNat)
  case atStart => exact ⟨0, Nat.zero_le _, rfl, Below.refl _ _, rfl⟩
  case round =>
    obtain ⟨k, hk, rfl, hbel, hno⟩ := hrel
    have hsz := hbel.size
    have HB := Lib.hid hbel; have HNO := Lib.hid hno
    clear hbel hno
    by_cases hlt : k < n
    · obtain ⟨ad, hkl, rfl, c0, c1⟩ := (H.out.below (HB.out.mono hB)).smp hlt
      have HST := Lib.hid (hasF_step hkl t)
      have HYES := Lib.hid (fun h1 h2 => hasF_of (t := t) hkl h1 h2)
      have hal := World.block_lt_of_cell? wr _ c0
      generalize zs[k] = p at *
      obtain ⟨f, u⟩ := p
      simp only at c0 c1
      have HB2 := Lib.hid (HB.out.alloc hsz (.cells #[.int .i64 f, .int .i64 u] 28))
      by_cases h1 : f ≤ t
      · by_cases h2 : t ≤ u
        · have HY := Lib.hid (HYES.out h1 h2)
          clear HYES
          go_wp2_with fail
          go_ret
          exact ⟨ret_bool HY.out.symm, HB2.out⟩
        · have HN := Lib.hid (show hasF (zs.take (k + 1)) t = false by rw [HST.out, HNO.out, decide_eq_false h2]; simp)
          clear HYES
          go_wp2_with fail
          go_roundw
          case rel => exact ⟨k + 1, by omega, by go_num, HB2.out, HN.out⟩
          case measure => simp [intOf]; omega
      · have HN := Lib.hid (show hasF (zs.take (k + 1)) t = false by rw [HST.out, HNO.out, decide_eq_false h1]; simp)
        clear HYES
        go_wp2_with fail
        go_roundw
        case rel => exact ⟨k + 1, by omega, by go_num, HB2.out, HN.out⟩
        case measure => simp [intOf]; omega
    · obtain rfl : k = n := by omega
      have he : hasF zs t = false := by have := HNO.out; rwa [List.take_of_length_le (by rw [HL.out]; exact Nat.le_refl _)] at this
      have HE := Lib.hid he; clear he
      go_wp2_with fail
      go_ret
      exact ⟨ret_bool HE.out.symm, HB.out⟩
def runF (f : Int) (j : Nat) : List Int := (List.range j).map fun i : Nat => f + (i : Int)
theorem runF_len (f : Int) (j : Nat) : (runF f j).length = j := by simp [runF]
theorem runF_snoc (f : Int) (j : Nat) : runF f (j + 1) = runF f j ++ [f + (j : Int)] := by simp [runF, List.range_succ]
def ticksL (l : List (Int × Int)) : List Int := l.flatMap fun x => runF x.1 (x.2 - x.1 + 1).toNat
theorem ticksL_step {l : List (Int × Int)} {k : Nat} (h : k < l.length) : ticksL (l.take (k + 1)) = ticksL (l.take k) ++ runF l[k].1 (l[k].2 - l[k].1 + 1).toNat := by
  unfold ticksL
  rw [List.take_succ_eq_append_getElem h, List.flatMap_append, List.flatMap_cons, List.flatMap_nil, List.append_nil]
theorem ticksL_len {l : List (Int × Int)} (h : In200 l) : (ticksL l).length ≤ 200 * l.length := by
  induction l with
  | nil => simp [ticksL]
  | cons y l ih =>
    have h1 := h y (by simp)
    have h2 := ih fun z hz => h z (by simp [hz])
    have h3 : ticksL (y :: l) = runF y.1 (y.2 - y.1 + 1).toNat ++ ticksL l := by simp [ticksL]
    rw [h3, List.length_append, runF_len, List.length_cons]
    omega
theorem int_sees {w : World} {t : TypeId} (a : Int) : Sees (w.alloc (.cells #[.int .i64 a] t)) (w.alloc (.cells #[.int .i64 a] t)).heap.size 1 (some ⟨w.heap.size, 0, none⟩) 1 (ints [a]) := lit_ints (w := w) (t := t) [a]
theorem own_int {w w1 w2 : World} {B : Nat} {e : TypeId} {v v' : Value} {ts : List Int} {a : Int}
    (hb1 : Below B w w1) (hown : w1.ownsRow B e 1 v ts.length (ints ts)) (hown' : w2.ownsRow B e 1 v' (ts.length + 1) (ints ts ++ ints [a])) (hg : w1.grownBy w2 v.ownBlock) (hs : B ≤ w1.heap.size) :
    w2.ownsRow B e 1 v' (ts ++ [a]).length (ints (ts ++ [a])) ∧ Below B w w2 := by
  refine ⟨by rw [ints_append, List.length_append]; exact hown', hb1.grown hg hs fun k hk => (hown.lt k hk).1⟩
/-- The row of the call's own and x's box, in the midst of Ticks. -/
def TickAt (W : World) (bx : Nat) (ts : List Int) (x : Int × Int) (w : World) (v : Value) : Prop :=
  Blk w bx 28 [.int .i64 x.1, .int .i64 x.2] ∧ w.ownsRow W.heap.size 3 1 v ts.length (ints ts) ∧ Below W.heap.size W w ∧ v.ownBlock ≠ some bx ∧ W.heap.size ≤ bx
theorem TickAt.start {W w : World} {ts : List Int} {a b : Int} {v : Value} (h : w.ownsRow W.heap.size 3 1 v ts.length (ints ts)) (hb : Below W.heap.size W w) :
    TickAt W w.heap.size ts (a, b) (w.alloc (.cells #[.int .i64 a, .int .i64 b] 28)) v :=
  ⟨Blk.mk (heap_alloc_new w _), h.alloc _, hb.alloc hb.size _, fun e => by have := (h.lt _ e).2; omega, hb.size⟩
theorem TickAt.alloc {W w : World} {bx : Nat} {ts : List Int} {x : Int × Int} {v : Value} (h : TickAt W bx ts x w v) (o : Obj) : TickAt W bx ts x (w.alloc o) v :=
  ⟨h.1.alloc o, h.2.1.alloc o, h.2.2.1.alloc h.2.2.1.size o, h.2.2.2.1, h.2.2.2.2⟩
theorem TickAt.push {W w w2 : World} {bx : Nat} {ts : List Int} {x : Int × Int} {v v' : Value} {a : Int} (h : TickAt W bx ts x w v)
    (hown' : w2.ownsRow W.heap.size 3 1 v' (ts.length + 1) (ints ts ++ ints [a])) (hg : w.grownBy w2 v.ownBlock) (hw : Where w v v') : TickAt W bx (ts ++ [a]) x w2 v' := by
  refine ⟨h.1.grown hg (fun e => h.2.2.2.1 e.symm), by rw [ints_append, List.length_append]; exact hown', h.2.2.1.grown hg h.2.2.1.size fun k hk => (h.2.1.lt k hk).1, ?_, h.2.2.2.2⟩
  rcases hw with hw | hw
  · rw [hw]; exact h.2.2.2.1
  · intro e; have := hw _ e; have := h.1.lt; omega
end Go.Proofs.Ytogdollfndpleaa
