/- Package disk: its calls, by plain functions on a disk's state. -/
import Derived.Test.YtccajejeanbcmaaConcatU8
import Derived.Test.YtccajejeanbcmaaWhere
import Derived.Test.YtccajejeanbcmaaBook
import Derived.RegionTactic
import Derived.StillTailTactics
import Derived.Deep.RegionWith
import Derived.Deep.DeepCutAuto
import Derived.Deep.RegionLaw
namespace Go.Proofs.Ytccajejeanbcmaa
open Go.ChangeShapes Go.WideShapes Go.ChangeAt Go.RowKit
set_option linter.unusedVariables false
set_option maxRecDepth 100000
/-- An append whose run is known, as one step of a region that draws. -/
theorem step_append_run {P : Program} {ops : Array Oper} {o : Oper} {a : Act} {w : World} {K : Act → World → Prop} {Q : Exit → Act → World → Prop} {E : Prop}
    (hg : o.guard = none) (s x : Operand) (t : TypeId) (hop : o.op = Op.call { callee := Callee.builtin Builtin.append, args := #[s, x], argTypes := #[t, t] })
    (vs vx : Value) (hs : a.eval s = vs) (hx : a.eval x = vx) (v' : Value) (w2 : World) (hrun : (Builtin.append_ #[t, t] o.type #[vs, vx]).run P w = .ok v' w2)
    (hK : K (a.put o.dst v') w2) : if Region.wanted o (yielded ops a.tmps) = true then Oper.wp P o a w K Q else E := by
  have hw : Region.wanted o (yielded ops a.tmps) = true := by simp [Region.wanted, hg]
  rw [if_pos hw]
  unfold Oper.wp
  simp [execOp, hop, resolve, invoke, builtin, hs, hx, hrun, Result.andThen]
  exact hK
/-- A disk: its bytes, how many are firm, its room, its fuse (-1: none), whether the power is off. -/
structure Dk where
  bs : List Int
  firm : Int
  room : Int
  fuse : Int
  off : Bool
/-- A number, or the nearer bound. -/
def nNear (n lo hi : Int) : Int := if n < lo then lo else if hi < n then hi else n
theorem nearest_any (n lo hi : Int) (w : World) (h : lo ≤ hi) :
    Calls Try.prog 21 #[.int .i64 n, .int .i64 lo, .int .i64 hi] w fun e w' => e = .returned (.int .i64 (nNear n lo hi)) ∧ w = w' := by
  by_cases h1 : n < lo
  · have e : nNear n lo hi = lo := by unfold nNear; rw [if_pos h1]
    rw [e]; clear e
    have h2 : ¬ lo > hi := by omega
    have h3 : ¬ hi < lo := by omega
    go_enter Try.func21, Try.ntmps21
    go_wp2_with fail
    go_ret
    exact ⟨ret_int (by omega), rfl⟩
  · by_cases h2 : hi < n
    · have e : nNear n lo hi = hi := by unfold nNear; rw [if_neg h1, if_pos h2]
      rw [e]; clear e
      go_enter Try.func21, Try.ntmps21
      go_wp2_with fail
      go_ret
      exact ⟨ret_int (by omega), rfl⟩
    · have e : nNear n lo hi = n := by unfold nNear; rw [if_neg h1, if_neg h2]
      rw [e]; clear e
      go_enter Try.func21, Try.ntmps21
      go_wp2_with fail
      go_ret
      exact ⟨ret_int (by omega), rfl⟩
theorem new_any (room : Int) (w : World) :
    Calls Try.prog 8 #[.int .i64 room] w fun e w' => e = .returned (.pointer (some ⟨w.heap.size, 0, none⟩)) ∧ w.alloc (.cells #[.slice none 0 0, .int .i64 0, .int .i64 (nNear room 0 20000), .int .i64 (-1), .bool false] 44) = w' := by
  go_enter Try.func8, Try.ntmps8
  go_wp2_with fail
  refine (nearest_any room 0 20000 _ (by omega)).mono ?_; rintro e w' ⟨rfl, rfl⟩
  go_wp2_with fail
  go_ret
  exact ⟨rfl, rfl⟩
/-- The disk lies in block g, its bytes in a row of its own. -/
def Dk.at (d : Dk) (w : World) (g : Nat) (v : Value) : Prop :=
  Blk w g 44 [v, .int .i64 d.firm, .int .i64 d.room, .int .i64 d.fuse, .bool d.off] ∧ w.ownsRow (g + 1) 5 1 v d.bs.length (u8s d.bs)
/-- But for block g and the row v all is as it was. -/
structure Turned (g : Nat) (v : Value) (w w' : World) : Prop where
  os : w'.os = w.os
  tape : w'.tape = w.tape
  output : w'.output = w.output
  size : w.heap.size ≤ w'.heap.size
  block : ∀ k, k < w.heap.size → k ≠ g → some k ≠ v.ownBlock → w'.heap[k]? = w.heap[k]?
theorem Turned.refl (g : Nat) (v : Value) (w : World) : Turned g v w w := ⟨rfl, rfl, rfl, Nat.le_refl _, fun _ _ _ _ => rfl⟩
theorem Turned.setCell {g : Nat} {v : Value} {w w' : World} (h : Turned g v w w') (i : Nat) (u : Value) : Turned g v w (w'.setCell ⟨g, i, none⟩ u) :=
  ⟨h.os, h.tape, h.output, by simpa using h.size, fun k hk h1 h2 => (Below.heap_setCell w' ⟨g, i, none⟩ u k h1).trans (h.block k hk h1 h2)⟩
theorem Turned.drewN {g : Nat} {v : Value} {w w' : World} (h : Turned g v w w') (n : Nat) : Turned g v w (w'.drewN n) := ⟨h.os, h.tape, h.output, h.size, h.block⟩
theorem Turned.drew {g : Nat} {v : Value} {w w' : World} (h : Turned g v w w') : Turned g v w w'.drew := ⟨h.os, h.tape, h.output, h.size, h.block⟩
theorem Turned.trans' {g : Nat} {v : Value} {w w1 w2 : World} (h : Turned g v w w1) (hb : Turned g v w1 w2) : Turned g v w w2 :=
  ⟨hb.os.trans h.os, hb.tape.trans h.tape, hb.output.trans h.output, Nat.le_trans h.size hb.size, fun k hk h1 h2 => (hb.block k (Nat.lt_of_lt_of_le hk h.size) h1 h2).trans (h.block k hk h1 h2)⟩
theorem Turned.below_after {g : Nat} {v : Value} {w w1 w2 : World} (h : Turned g v w w1) (hb : Below w1.heap.size w1 w2) : Turned g v w w2 :=
  ⟨hb.os.trans h.os, hb.tape.trans h.tape, hb.output.trans h.output, Nat.le_trans h.size hb.size, fun k hk h1 h2 => (hb.block k (Nat.lt_of_lt_of_le hk h.size)).trans (h.block k hk h1 h2)⟩
theorem Turned.grown {g : Nat} {v : Value} {w w1 w2 : World} (h : Turned g v w w1) (hb : w1.grownBy w2 v.ownBlock) : Turned g v w w2 :=
  ⟨hb.os.trans h.os, hb.tape.trans h.tape, hb.output.trans h.output, Nat.le_trans h.size hb.size, fun k hk h1 h2 => (hb.block k (Nat.lt_of_lt_of_le hk h.size) h2).trans (h.block k hk h1 h2)⟩
theorem Turned.below {g B : Nat} {v : Value} {w w' : World} (h : Turned g v w w') (hB : B ≤ g) (hv : ∀ k, v.ownBlock = some k → B ≤ k) (hs : B ≤ w.heap.size) : Below B w w' :=
  ⟨h.os, h.tape, h.output, h.size, fun k hk => h.block k (by omega) (by omega) (fun e => by have := hv k e.symm; omega)⟩
theorem Turned.own {g : Nat} {v u : Value} {w w' : World} {base : Nat} {e : TypeId} {s n : Nat} {xs : List Value} (h : Turned g v w w') (ho : w.ownsRow base e s u n xs) (hg : u.ownBlock ≠ some g) (hv : ∀ k, u.ownBlock = some k → v.ownBlock ≠ some k) : w'.ownsRow base e s u n xs := by
  refine ⟨ho.1, ?_⟩
  rcases ho.2 with h2 | ⟨k, cap, cur, rfl, hb, hh, rest⟩
  · exact .inl h2
  · refine .inr ⟨k, cap, cur, rfl, hb, ?_, rest⟩
    have hk : k < w.heap.size := (Array.getElem?_eq_some_iff.1 hh).1
    rw [h.block k hk (fun e => hg (by rw [e]; rfl)) (fun e => hv k rfl e.symm)]
    exact hh
theorem Turned.blk {g k : Nat} {v : Value} {w w' : World} {t : TypeId} {cs : List Value} (h : Turned g v w w') (ho : Blk w k t cs) (hg : k ≠ g) (hv : v.ownBlock ≠ some k) : Blk w' k t cs :=
  (h.block k ho.lt hg (fun e => hv e.symm)).trans ho
/-- What a call that turns a disk leaves. -/
def DkAns (d' : Dk) (g : Nat) (v : Value) (w : World) (r : Value) (e : Ending) (w' : World) : Prop :=
  ∃ v', e = .returned r ∧ d'.at w' g v' ∧ Turned g v w w'
theorem dkAns {d' : Dk} {g : Nat} {v v' r : Value} {w w' : World} {e : Ending} (h1 : e = .returned r) (h2 : d'.at w' g v') (h3 : Turned g v w w') : DkAns d' g v w r e w' := ⟨v', h1, h2, h3⟩
/-- As 'DkAns'; where the row lies, too. -/
def DkAns2 (d' : Dk) (g : Nat) (v : Value) (w : World) (r : Value) (e : Ending) (w' : World) : Prop :=
  ∃ v', e = .returned r ∧ d'.at w' g v' ∧ Turned g v w w' ∧ Where w v v'
theorem dkAns2 {d' : Dk} {g : Nat} {v v' r : Value} {w w' : World} {e : Ending} (h1 : e = .returned r) (h2 : d'.at w' g v') (h3 : Turned g v w w') (h4 : Where w v v') : DkAns2 d' g v w r e w' := ⟨v', h1, h2, h3, h4⟩
theorem DkAns2.less {d' : Dk} {g : Nat} {v r : Value} {w w' : World} {e : Ending} (h : DkAns2 d' g v w r e w') : DkAns d' g v w r e w' := by
  obtain ⟨v', h1, h2, h3, _⟩ := h
  exact ⟨v', h1, h2, h3⟩
theorem Where.less {w w1 : World} {v v' : Value} (h : Where w1 v v') (hs : w.heap.size ≤ w1.heap.size) : Where w v v' := by
  rcases h with h | h
  · exact .inl h
  · exact .inr fun k hk => Nat.le_trans hs (h k hk)
section
variable {d : Dk} {w : World} {g : Nat} {v : Value}
theorem Dk.at.cells (h : d.at w g v) : w.cell? ⟨g, 0, none⟩ = some v ∧ w.cell? ⟨g, 1, none⟩ = some (.int .i64 d.firm) ∧ w.cell? ⟨g, 2, none⟩ = some (.int .i64 d.room) ∧ w.cell? ⟨g, 3, none⟩ = some (.int .i64 d.fuse) ∧ w.cell? ⟨g, 4, none⟩ = some (.bool d.off) ∧ (∀ x, w.frozen? ⟨g, x, none⟩ = false) ∧ g < w.heap.size :=
  ⟨h.1.cell 0, h.1.cell 1, h.1.cell 2, h.1.cell 3, h.1.cell 4, fun x => h.1.frozen x, h.1.lt⟩
theorem Dk.at.firm (h : d.at w g v) (n : Int) : Dk.at ⟨d.bs, n, d.room, d.fuse, d.off⟩ (w.setCell ⟨g, 1, none⟩ (.int .i64 n)) g v := ⟨h.1.set 1 _, own_far h.2 (Nat.lt_succ_self _) _⟩
theorem Dk.at.fuse (h : d.at w g v) (n : Int) : Dk.at ⟨d.bs, d.firm, d.room, n, d.off⟩ (w.setCell ⟨g, 3, none⟩ (.int .i64 n)) g v := ⟨h.1.set 3 _, own_far h.2 (Nat.lt_succ_self _) _⟩
theorem Dk.at.off (h : d.at w g v) (b : Bool) : Dk.at ⟨d.bs, d.firm, d.room, d.fuse, b⟩ (w.setCell ⟨g, 4, none⟩ (.bool b)) g v := ⟨h.1.set 4 _, own_far h.2 (Nat.lt_succ_self _) _⟩
theorem Dk.at.drewN (h : d.at w g v) (n : Nat) : d.at (w.drewN n) g v := ⟨h.1, h.2⟩
theorem Dk.at.drew (h : d.at w g v) : d.at w.drew g v := ⟨h.1, h.2⟩
theorem Dk.at.below {w' : World} (h : d.at w g v) (hb : Below w.heap.size w w') : d.at w' g v := ⟨h.1.below hb h.1.lt, own_below h.2 hb (Nat.le_refl _)⟩
theorem Dk.at.own (h : d.at w g v) : ∀ k, v.ownBlock = some k → g < k := fun k hk => (h.2.lt k hk).1
/-- The row is put in the disk. -/
theorem Dk.at.row {w1 : World} {v' : Value} {bs : List Int} (h : d.at w g v) (hg : w.grownBy w1 v.ownBlock) (hown : w1.ownsRow (g + 1) 5 1 v' bs.length (u8s bs)) :
    Dk.at ⟨bs, d.firm, d.room, d.fuse, d.off⟩ (w1.setCell ⟨g, 0, none⟩ v') g v' :=
  ⟨(h.1.grown hg (fun e => by have := h.own g e.symm; omega)).set 0 _, own_far hown (Nat.lt_succ_self _) _⟩
/-- The row is cut. -/
theorem own_cut {base : Nat} {e : TypeId} {s n c k : Nat} {A : Option Addr} {xs : List Value} (h : w.ownsRow base e s (.slice A n c) n xs) (hk : k ≤ n) : w.ownsRow base e s (.slice A k c) k (xs.take (k * s)) := by
  refine ⟨by rw [List.length_take, h.1]; exact Nat.min_eq_left (Nat.mul_le_mul_right _ hk), ?_⟩
  rcases h.2 with ⟨h1, h2⟩ | ⟨k', cap, cur, hv, hb, hh, hnc, hcm, hs, ht⟩
  · injection h1 with h3 h4 h5
    subst h3; subst h5; subst h2
    obtain rfl : k = 0 := by omega
    exact .inl ⟨rfl, rfl⟩
  · injection hv with h3 h4 h5
    subst h3; subst h5
    exact .inr ⟨k', c, cur, rfl, hb, hh, by omega, hcm, hs, by rw [← ht, List.take_take, Nat.min_eq_left (Nat.mul_le_mul_right _ hk)]⟩
theorem Dk.at.cut {n c k : Nat} {A : Option Addr} (h : d.at w g (.slice A n c)) (hn : d.bs.length = n) (hk : k ≤ n) : Dk.at ⟨d.bs.take k, d.firm, d.room, d.fuse, d.off⟩ (w.setCell ⟨g, 0, none⟩ (.slice A k c)) g (.slice A k c) := by
  have hl : (d.bs.take k).length = k := by rw [List.length_take]; omega
  refine ⟨h.1.set 0 _, own_far (p := ⟨g, 0, none⟩) (base := g + 1) ?_ (Nat.lt_succ_self _) _⟩
  show w.ownsRow (g + 1) 5 1 (.slice A k c) (d.bs.take k).length (u8s (d.bs.take k))
  have h2 := h.2
  rw [hn] at h2
  have := own_cut h2 hk
  rw [Nat.mul_one, u8s_take] at this
  rw [hl]; exact this
end
/-- Numbers that a disk may have. -/
structure Dk.ok (d : Dk) : Prop where
  firm0 : 0 ≤ d.firm
  firm : d.firm ≤ d.bs.length
  size : (d.bs.length : Int) ≤ d.room
  room : d.room ≤ 20000
  fuse0 : -1 ≤ d.fuse
  fuse : d.fuse ≤ 9223372036854775807
theorem arm_any (d : Dk) (g : Nat) (v : Value) (n : Int) (w : World) (h : d.at w g v) (hn : -1 ≤ n) :
    Calls Try.prog 9 #[.pointer (some ⟨g, 0, none⟩), .int .i64 n] w fun e w' => e = .returned (.tuple #[]) ∧ w.setCell ⟨g, 3, none⟩ (.int .i64 n) = w' := by
  obtain ⟨h0, h1, h2, h3, h4, hfz, hg⟩ := h.cells
  have hn1 : ¬ n < -1 := by omega
  clear h
  go_enter Try.func9, Try.ntmps9
  go_wp2_with fail
  go_end0
  exact ⟨rfl, rfl⟩
theorem burn_none (d : Dk) (g : Nat) (v : Value) (n : Int) (w : World) (h : d.at w g v) (hf : d.fuse = -1) :
    Calls Try.prog 24 #[.pointer (some ⟨g, 0, none⟩), .int .i64 n] w fun e w' => e = .returned (.bool true) ∧ w = w' := by
  obtain ⟨h0, h1, h2, h3, h4, hfz, hg⟩ := h.cells
  rw [hf] at h3
  clear h hf
  go_enter Try.func24, Try.ntmps24
  go_wp2_with fail
  go_ret
  exact ⟨rfl, rfl⟩
theorem burn_over (d : Dk) (g : Nat) (v : Value) (n : Int) (w : World) (h : d.at w g v) (hf : d.fuse ≠ -1) (hn : d.fuse < n) :
    Calls Try.prog 24 #[.pointer (some ⟨g, 0, none⟩), .int .i64 n] w fun e w' => e = .returned (.bool false) ∧ (w.setCell ⟨g, 3, none⟩ (.int .i64 0)).setCell ⟨g, 4, none⟩ (.bool true) = w' := by
  obtain ⟨h0, h1, h2, h3, h4, hfz, hg⟩ := h.cells
  have hfb : (d.fuse == -1) = false := by simpa using hf
  clear h hf
  generalize d.fuse = f at *
  go_enter Try.func24, Try.ntmps24
  go_wp2_with fail
  go_ret
  exact ⟨rfl, rfl⟩
theorem burn_ok (d : Dk) (g : Nat) (v : Value) (n : Int) (w : World) (h : d.at w g v) (hf : d.fuse ≠ -1) (hf0 : -1 ≤ d.fuse) (hf1 : d.fuse ≤ 9223372036854775807) (hn : n ≤ d.fuse) (hn0 : 0 ≤ n) :
    Calls Try.prog 24 #[.pointer (some ⟨g, 0, none⟩), .int .i64 n] w fun e w' => e = .returned (.bool true) ∧ w.setCell ⟨g, 3, none⟩ (.int .i64 (d.fuse - n)) = w' := by
  obtain ⟨h0, h1, h2, h3, h4, hfz, hg⟩ := h.cells
  have hfb : (d.fuse == -1) = false := by simpa using hf
  have hnn : ¬ n > d.fuse := by omega
  clear h hf
  generalize d.fuse = f at *
  go_enter Try.func24, Try.ntmps24
  go_wp2_with fail
  go_ret
  exact ⟨rfl, rfl⟩
theorem PartsU8.drewN {w : World} {B : Nat} {P : Option Addr} {np : Nat} {ls : List (List Int)} (h : PartsU8 w B P np ls) (m : Nat) : PartsU8 (w.drewN m) B P np ls :=
  ⟨h.1, fun j l hj => by
    obtain ⟨ad, A, n, c, h1, h2, h3, h4, h5, h6, h7⟩ := h.2 j l hj
    exact ⟨ad, A, n, c, h1, h2, h3, h4.drewN m, h5, h6, h7⟩⟩
/-- How many bytes parts have in all. -/
theorem flat_drop {ls : List (List Int)} {j : Nat} {l : List Int} (h : ls[j]? = some l) : (ls.drop j).flatten.length = l.length + (ls.drop (j + 1)).flatten.length := by
  have hj := (List.getElem?_eq_some_iff.1 h).1
  have h2 := (List.getElem?_eq_some_iff.1 h).2
  rw [List.drop_eq_getElem_cons hj, h2, List.flatten_cons, List.length_append]
theorem fits_any (d : Dk) (g : Nat) (v : Value) (P : Option Addr) (np cp : Nat) (ls : List (List Int)) (w : World) (h : d.at w g v) (hd : d.ok) (hp : PartsU8 w w.heap.size P np ls) (hn : np ≤ 1000000) (hN : ls.flatten.length ≤ 1000000) :
    Calls Try.prog 22 #[.pointer (some ⟨g, 0, none⟩), .slice P np cp] w fun e w' => e = .returned (.bool (decide ((ls.flatten.length : Int) ≤ d.room - d.bs.length))) ∧ ∃ m, w' = w.drewN m := by
  obtain ⟨h0, h1, h2, h3, h4, hfz, hg⟩ := h.cells
  obtain ⟨A, c, rfl, hnc, hc⟩ := own_slice h.2
  have hsz := hd.size
  have hrm := hd.room
  have HP := Lib.hid hp; clear hp h hd
  generalize hbl : d.bs.length = bl at *
  generalize hrr : d.room = rm at *
  clear hbl hrr
  have HL := Lib.hid HP.out.1
  generalize hfl : ls.flatten.length = N at *
  have HF := Lib.hid hfl; clear hfl
  go_enter Try.func22, Try.ntmps22
  go_wp2_with fail
  go_quiet (fail)
  go_wp2_with fail
  go_loop [5, 20] (fun s i => ∃ (j : Nat) (x : Int), j ≤ np ∧ i = .int .i64 j ∧ s = .int .i64 x ∧ 0 ≤ x ∧ x ≤ 20000 ∧ ((N : Int) ≤ rm - bl ↔ ((ls.drop j).flatten.length : Int) ≤ x)) (fun _ i => np - (intOf i).toNat)
  case atStart => exact ⟨0, rm - bl, Nat.zero_le _, rfl, rfl, by omega, by omega, by rw [List.drop_zero, HF.out]⟩
  case round =>
    obtain ⟨j, x, hj, rfl, rfl, hx0, hx1, hiff⟩ := hrel
    have HI := Lib.hid hiff; clear hiff
    by_cases hlt : j < np
    · obtain ⟨l, hl⟩ : ∃ l, ls[j]? = some l := ⟨_, List.getElem?_eq_getElem (by have := HL.out; omega)⟩
      obtain ⟨ad, A', n, c', rfl, g2, g3, g4, g5, g6, g7⟩ := HP.out.2 j l hl
      have HD := Lib.hid (flat_drop hl); have H5 := Lib.hid g5; clear hl g4 g5
      by_cases hle : (n : Int) ≤ x
      · go_wp2_with fail
        go_round
        case rel => exact ⟨j + 1, x - n, by omega, by go_num, rfl, by omega, by omega, by rw [HI.out, HD.out, ← H5.out]; omega⟩
        case measure => simp [intOf]; omega
      · have hgt : (n : Int) > x := by omega
        go_wp2_with fail
        go_ret
        refine ⟨ret_bool (decide_eq_false ?_).symm, _, rfl⟩
        rw [HI.out, HD.out, ← H5.out]; omega
    · go_wp2_with fail
      go_ret
      refine ⟨ret_bool (decide_eq_true ?_).symm, _, rfl⟩
      rw [HI.out, List.drop_of_length_le (by rw [HL.out]; omega)]
      simp; omega
/-- What is put behind a disk's bytes, and what is told. -/
def Dk.write (d : Dk) (xs : List Int) : Int × Dk :=
  if d.off then (9, d) else
  if d.room - d.bs.length < xs.length then (8, d) else
  if d.fuse = -1 then (0, ⟨d.bs ++ xs, d.firm, d.room, d.fuse, d.off⟩) else
  if d.fuse < xs.length then (9, ⟨d.bs ++ xs.take d.fuse.toNat, d.firm, d.room, 0, true⟩) else
  (0, ⟨d.bs ++ xs, d.firm, d.room, d.fuse - xs.length, d.off⟩)
set_option maxHeartbeats 2000000 in
theorem write_all (d : Dk) (g : Nat) (v : Value) (P : Option Addr) (np cp : Nat) (ls : List (List Int)) (w : World) (h : d.at w g v) (hd : d.ok) (hp : PartsU8 w w.heap.size P np ls) (hn : np ≤ 1000000) (hN : ls.flatten.length ≤ 1000000) :
    Calls Try.prog 10 #[.pointer (some ⟨g, 0, none⟩), .slice P np cp] w (DkAns2 (d.write ls.flatten).2 g v w (.int .i64 (d.write ls.flatten).1)) := by
  obtain ⟨A, c, rfl, hnc, hcm⟩ := own_slice h.2
  obtain ⟨h0, h1, h2, h3, h4, hfz, hg⟩ := h.cells
  have H := Lib.hid h; have HD := Lib.hid hd; have HP := Lib.hid hp; clear h hd hp
  cases hoff : d.off
  · rw [hoff] at h4
    by_cases hfit : (ls.flatten.length : Int) ≤ d.room - d.bs.length
    · obtain ⟨i0, hi, hz0, hz1, hz2⟩ := info_parts Try.infoU8
      have hbn : d.bs.length ≤ 20000 := by have := HD.out.size; have := HD.out.room; omega
      have hNn : ls.flatten.length ≤ 20000 := by have := HD.out.room; omega
      have hfits := fits_any d g _ P np cp ls w H.out HD.out HP.out hn hN
      rw [decide_eq_true hfit] at hfits
      have HF := Lib.hid hfits; clear hfits
      have he : d.write ls.flatten = (if d.fuse = -1 then (0, ⟨d.bs ++ ls.flatten, d.firm, d.room, d.fuse, d.off⟩) else
          if d.fuse < ls.flatten.length then (9, ⟨d.bs ++ ls.flatten.take d.fuse.toNat, d.firm, d.room, 0, true⟩) else (0, ⟨d.bs ++ ls.flatten, d.firm, d.room, d.fuse - ls.flatten.length, d.off⟩)) := by
        unfold Dk.write; rw [hoff]; simp only [Bool.false_eq_true, if_false]; rw [if_neg (by omega)]
      have HE := Lib.hid he; clear he hoff
      by_cases hf1 : d.fuse = -1
      · have e := HE.out
        rw [if_pos hf1] at e
        rw [e]; clear e HE
        have HF1 := Lib.hid hf1
        rw [hf1] at h3
        clear hf1
        generalize hxs : ls.flatten = xs at *
        have HX := Lib.hid hxs; clear hxs
        go_enter Try.func10, Try.ntmps10
        go_wp2_with fail
        refine HF.out.mono ?_; rintro e w' ⟨rfl, m, rfl⟩
        go_wp2_with fail
        refine (concat_U8 P np cp ls (w.drewN m) (HP.out.drewN m) hn (by rw [HX.out]; omega)).mono ?_; rintro e w1 ⟨A1, c1, rfl, hown1, hbel1, hc1, hc2⟩
        rw [HX.out] at hown1 hc1 ⊢
        have HAT := Lib.hid ((H.out.drewN m).below hbel1)
        have HT := Lib.hid ((Turned.refl g (.slice A d.bs.length c) w).drewN m |>.below_after hbel1)
        have HS := Lib.hid (Sees.of_own hown1); clear hown1 hbel1 HF
        obtain ⟨h0', h1', h2', h3', h4', hfz', hg'⟩ := HAT.out.cells
        rw [HF1.out] at h3'
        go_wp2_with fail
        refine (burn_none d g _ _ w1 HAT.out HF1.out).mono ?_; rintro e w' ⟨rfl, rfl⟩
        have HOWN := Lib.hid HAT.out.2
        go_wp2_with (at_builtin; refine wpList_append_at rfl (.tmp 43) (.tmp 44) 27 rfl (g + 1) 5 i0 (.int .u8 0) 1 1 Try.underlying27 hi hz0 hz1 hz2 rfl (by decide) (.slice A d.bs.length c) d.bs.length (u8s d.bs) rfl HOWN.out w1.heap.size A1 xs.length c1 (u8s xs) rfl HS.out (u8s_one _) (by unfold maxLen; omega) (by omega) (by omega) ?_)
        intro v' w2 hown2 hgr2 hwh
        obtain ⟨A2, c2, rfl, hc3, hc4⟩ := own_slice hown2
        have hown3 : w2.ownsRow (g + 1) 5 1 (.slice A2 (d.bs.length + xs.length) c2) (d.bs ++ xs).length (u8s (d.bs ++ xs)) := by rw [List.length_append, u8s_append]; exact hown2
        have hat2 := HAT.out.row hgr2 hown3
        have ht2 := (HT.out.below_after (Below.refl _ _)).grown hgr2
        have hk2 := HAT.out.1.grown hgr2 (fun e => by have := HAT.out.own g e.symm; omega)
        have HW := Lib.hid (hwh.less (HT.out.size)); have HA2 := Lib.hid hat2; have HT2 := Lib.hid (ht2.setCell 0 (.slice A2 (d.bs.length + xs.length) c2))
        have hd0 : w2.cell? ⟨g, 0, none⟩ = some (.slice A d.bs.length c) := hk2.cell 0
        have hdf : ∀ x, w2.frozen? ⟨g, x, none⟩ = false := fun x => hk2.frozen x
        have hdg := hk2.lt
        clear hat2 ht2 hk2 hown2 hgr2 hown3 hwh
        go_wp2_with fail
        go_ret
        exact dkAns2 rfl HA2.out HT2.out HW.out
      · have hf0 := HD.out.fuse0
        have hf2 := HD.out.fuse
        have hfb : (d.fuse == -1) = false := by simpa using hf1
        obtain ⟨k, hk⟩ := Int.eq_ofNat_of_zero_le (show 0 ≤ d.fuse by omega)
        have HK := Lib.hid hk
        by_cases hov : d.fuse < ls.flatten.length
        · have e := HE.out
          rw [if_neg hf1, if_pos hov] at e
          rw [e]; clear e HE
          have HF1 := Lib.hid hf1; clear hf1
          generalize hxs : ls.flatten = xs at *
          have HX := Lib.hid hxs; clear hxs
          have hkt : xs.take d.fuse.toNat = xs.take k := by rw [hk]; rfl
          rw [hkt]
          rw [hk] at h3 hov hfb
          have hkx : k < xs.length := by omega
          clear hk hkt hf0 hf2
          go_enter Try.func10, Try.ntmps10
          go_wp2_with fail
          refine HF.out.mono ?_; rintro e w' ⟨rfl, m, rfl⟩
          go_wp2_with fail
          refine (concat_U8 P np cp ls (w.drewN m) (HP.out.drewN m) hn (by rw [HX.out]; omega)).mono ?_; rintro e w1 ⟨A1, c1, rfl, hown1, hbel1, hc1, hc2⟩
          rw [HX.out] at hown1 hc1 ⊢
          have hat := (H.out.drewN m).below hbel1
          have ht := (Turned.refl g (.slice A d.bs.length c) w).drewN m |>.below_after hbel1
          have HO1 := Lib.hid hown1
          have HATX := Lib.hid hat; have HTX := Lib.hid ht; clear hown1 hbel1 HF
          obtain ⟨h0', h1', h2', h3', h4', hfz', hg'⟩ := hat.cells
          rw [HK.out] at h3'
          clear hat ht
          go_wp2_with fail
          refine (burn_over d g _ _ w1 HATX.out HF1.out (by rw [HK.out]; omega)).mono ?_; rintro e w' ⟨rfl, rfl⟩
          have HAT := Lib.hid ((HATX.out.fuse 0).off true)
          have HT := Lib.hid ((HTX.out.setCell 3 (.int .i64 0)).setCell 4 (.bool true))
          have ho2 := own_cut (own_far (p := ⟨g, 4, none⟩) (own_far (p := ⟨g, 3, none⟩) HO1.out hg (.int .i64 0)) hg (.bool true)) (Nat.le_of_lt hkx)
          rw [Nat.mul_one, u8s_take] at ho2
          have HS := Lib.hid (Sees.of_own ho2)
          clear ho2 HATX HTX HO1 h0' h1' h2' h3' h4' hfz' hg'
          generalize (w1.setCell ⟨g, 3, none⟩ (.int .i64 0)).setCell ⟨g, 4, none⟩ (.bool true) = W at *
          obtain ⟨h0', h1', h2', h3', h4', hfz', hg'⟩ := HAT.out.cells
          have hlk : (xs.take k).length = k := by rw [List.length_take]; omega
          obtain ⟨v', w2, hrun, hown2, hgr2⟩ := append_run (P := Try.prog) W.drew (g + 1) 27 27 5 i0 (.int .u8 0) 1 1 Try.underlying27 hi hz0 hz1 hz2 rfl (by decide) (.slice A d.bs.length c) d.bs.length (u8s d.bs) HAT.out.2 W.heap.size A1 k c1 (u8s (xs.take k)) ⟨HS.out.len, HS.out.at_⟩ (u8s_one _) (by unfold maxLen; omega) (by omega) (by show g + 1 ≤ W.heap.size; omega)
          have hwh : Where W (.slice A d.bs.length c) v' := append_where (P := Try.prog) W.drew (g + 1) 27 27 5 i0 (.int .u8 0) 1 1 Try.underlying27 hi hz0 hz1 hz2 rfl (by decide) (.slice A d.bs.length c) d.bs.length (u8s d.bs) HAT.out.2 W.heap.size A1 k c1 (u8s (xs.take k)) ⟨HS.out.len, HS.out.at_⟩ (u8s_one _) (by unfold maxLen; omega) (by omega) v' w2 hrun
          have hgr3 : W.grownBy w2 (Value.ownBlock (.slice A d.bs.length c)) := ⟨hgr2.os, hgr2.tape, hgr2.output, hgr2.size, hgr2.block⟩
          obtain ⟨A2, c2, rfl, hc3, hc4⟩ := own_slice hown2
          have hown3 : w2.ownsRow (g + 1) 5 1 (.slice A2 (d.bs.length + k) c2) (d.bs ++ xs.take k).length (u8s (d.bs ++ xs.take k)) := by rw [List.length_append, u8s_append, hlk]; exact hown2
          have hat2 := HAT.out.row hgr3 hown3
          have ht2 := HT.out.grown hgr3
          have hk2 := HAT.out.1.grown hgr3 (fun e => by have := HAT.out.own g e.symm; omega)
          have HW := Lib.hid (hwh.less (HT.out.size)); have HA2 := Lib.hid hat2; have HT2 := Lib.hid (ht2.setCell 0 (.slice A2 (d.bs.length + k) c2))
          have hd0 : w2.cell? ⟨g, 0, none⟩ = some (.slice A d.bs.length c) := hk2.cell 0
          have hdf : ∀ x, w2.frozen? ⟨g, x, none⟩ = false := fun x => hk2.frozen x
          have hdg := hk2.lt
          clear hat2 ht2 hk2 hown2 hgr2 hown3 hwh hgr3 hlk
          have hkc : k ≤ c1 := by omega
          have HRUN := Lib.hid hrun; clear hrun
          go_wp2_with fail
          go_region_law (refine step_append_run rfl (.tmp 32) (.tmp 35) 27 rfl (.slice A d.bs.length c) (.slice A1 k c1) (by simp [Act.eval]) (by simp [Act.eval]) _ _ HRUN.out ?_)
          all_goals
            go_wp2_with fail
            go_ret
            exact dkAns2 rfl HA2.out HT2.out HW.out
        · have e := HE.out
          rw [if_neg hf1, if_neg hov] at e
          rw [e]; clear e HE
          have HF1 := Lib.hid hf1; clear hf1
          generalize hxs : ls.flatten = xs at *
          have HX := Lib.hid hxs; clear hxs
          have hkx : xs.length ≤ k := by omega
          rw [hk] at h3 hov hfb
          clear hk
          go_enter Try.func10, Try.ntmps10
          go_wp2_with fail
          refine HF.out.mono ?_; rintro e w' ⟨rfl, m, rfl⟩
          go_wp2_with fail
          refine (concat_U8 P np cp ls (w.drewN m) (HP.out.drewN m) hn (by rw [HX.out]; omega)).mono ?_; rintro e w1 ⟨A1, c1, rfl, hown1, hbel1, hc1, hc2⟩
          rw [HX.out] at hown1 hc1 ⊢
          have hat := (H.out.drewN m).below hbel1
          have ht := (Turned.refl g (.slice A d.bs.length c) w).drewN m |>.below_after hbel1
          have HO1 := Lib.hid hown1
          have HATX := Lib.hid hat; have HTX := Lib.hid ht; clear hown1 hbel1 HF
          obtain ⟨h0', h1', h2', h3', h4', hfz', hg'⟩ := hat.cells
          rw [HK.out] at h3'
          clear hat ht
          go_wp2_with fail
          refine (burn_ok d g _ _ w1 HATX.out HF1.out (by omega) (by omega) (by rw [HK.out]; omega) (by omega)).mono ?_; rintro e w' ⟨rfl, rfl⟩
          have HAT := Lib.hid (HATX.out.fuse (d.fuse - xs.length))
          have HT := Lib.hid (HTX.out.setCell 3 (.int .i64 (d.fuse - xs.length)))
          have ho2 := own_far (p := ⟨g, 3, none⟩) HO1.out hg (.int .i64 (d.fuse - xs.length))
          have HS := Lib.hid (Sees.of_own ho2)
          clear ho2 HATX HTX HO1 h0' h1' h2' h3' h4' hfz' hg'
          generalize w1.setCell ⟨g, 3, none⟩ (.int .i64 (d.fuse - xs.length)) = W at *
          obtain ⟨h0', h1', h2', h3', h4', hfz', hg'⟩ := HAT.out.cells
          have HOWN := Lib.hid HAT.out.2
          go_wp2_with (at_builtin; refine wpList_append_at rfl (.tmp 43) (.tmp 44) 27 rfl (g + 1) 5 i0 (.int .u8 0) 1 1 Try.underlying27 hi hz0 hz1 hz2 rfl (by decide) (.slice A d.bs.length c) d.bs.length (u8s d.bs) rfl HOWN.out W.heap.size A1 xs.length c1 (u8s xs) rfl HS.out (u8s_one _) (by unfold maxLen; omega) (by omega) (by omega) ?_)
          intro v' w2 hown2 hgr2 hwh
          obtain ⟨A2, c2, rfl, hc3, hc4⟩ := own_slice hown2
          have hown3 : w2.ownsRow (g + 1) 5 1 (.slice A2 (d.bs.length + xs.length) c2) (d.bs ++ xs).length (u8s (d.bs ++ xs)) := by rw [List.length_append, u8s_append]; exact hown2
          have hat2 := HAT.out.row hgr2 hown3
          have ht2 := (HT.out.below_after (Below.refl _ _)).grown hgr2
          have hk2 := HAT.out.1.grown hgr2 (fun e => by have := HAT.out.own g e.symm; omega)
          have HW := Lib.hid (hwh.less (HT.out.size)); have HA2 := Lib.hid hat2; have HT2 := Lib.hid (ht2.setCell 0 (.slice A2 (d.bs.length + xs.length) c2))
          have hd0 : w2.cell? ⟨g, 0, none⟩ = some (.slice A d.bs.length c) := hk2.cell 0
          have hdf : ∀ x, w2.frozen? ⟨g, x, none⟩ = false := fun x => hk2.frozen x
          have hdg := hk2.lt
          clear hat2 ht2 hk2 hown2 hgr2 hown3 hwh
          go_wp2_with fail
          go_ret
          exact dkAns2 rfl HA2.out HT2.out HW.out
    · have e : d.write ls.flatten = (8, d) := by unfold Dk.write; rw [hoff]; simp only [Bool.false_eq_true, if_false]; rw [if_pos (by omega)]
      rw [e]
      have hfits := fits_any d g _ P np cp ls w H.out HD.out HP.out hn hN
      rw [decide_eq_false hfit] at hfits
      have HF := Lib.hid hfits; clear e hoff hfits hfit
      go_enter Try.func10, Try.ntmps10
      go_wp2_with fail
      refine HF.out.mono ?_; rintro e w' ⟨rfl, m, rfl⟩
      go_wp2_with fail
      go_ret
      exact dkAns2 rfl (H.out.drewN m) ((Turned.refl _ _ _).drewN m) (Where.refl _ _)
  · have e : d.write ls.flatten = (9, d) := by unfold Dk.write; rw [hoff]; rfl
    rw [e]; rw [hoff] at h4
    clear e hoff
    go_enter Try.func10, Try.ntmps10
    go_wp2_with fail
    go_ret
    exact dkAns2 rfl H.out (Turned.refl _ _ _) (Where.refl _ _)
theorem write_any (d : Dk) (g : Nat) (v : Value) (P : Option Addr) (np cp : Nat) (ls : List (List Int)) (w : World) (h : d.at w g v) (hd : d.ok) (hp : PartsU8 w w.heap.size P np ls) (hn : np ≤ 1000000) (hN : ls.flatten.length ≤ 1000000) :
    Calls Try.prog 10 #[.pointer (some ⟨g, 0, none⟩), .slice P np cp] w (DkAns (d.write ls.flatten).2 g v w (.int .i64 (d.write ls.flatten).1)) :=
  (write_all d g v P np cp ls w h hd hp hn hN).mono fun _ _ h => h.less
end Go.Proofs.Ytccajejeanbcmaa
