/- klaxonlaw19.MailOrder. -/
import Derived.Test.YtepgllmenljkcaaMailNotes
import Derived.Test.YtepgllmenljkcaaBook
namespace Go.Proofs.Ytepgllmenljkcaa
open Go.ChangeShapes Go.WideShapes Go.ChangeAt Go.RowKit
set_option linter.unusedVariables false
set_option linter.unusedSimpArgs false
set_option maxRecDepth 100000
/-- string([]byte{c}). -/
theorem conv_one (w : World) (c : UInt8) (v : Int) (hv : v = c.toNat) :
    (convert 37 9 (.slice (some ⟨w.heap.size, 0, none⟩) 1 1)).run Try.prog (w.alloc (.cells #[.int .u8 v] 5)) = .ok (.string ⟨#[c]⟩) (w.alloc (.cells #[.int .u8 v] 5)) := by
  subst hv
  refine run_convert_bytes_back _ 37 9 5 ⟨w.heap.size, 0, none⟩ 1 [c] Try.underlying37 Try.underlying5 Try.underlying9 fun j hj => ?_
  have hj0 : j = 0 := by simpa using hj
  subst hj0
  rw [add_zero']
  exact (Blk.mk (heap_alloc_new w _) : Blk _ w.heap.size 5 [.int .u8 c.toNat]).cell 0
/-- What the law holds beside its boxes. -/
structure OrdAt (w0 : World) (B : Nat) (v : Value) (xs : List NV) (w : World) : Prop where
  row : w.ownsRow B 27 3 v xs.length (ncells xs)
  ok : ∀ x ∈ xs, NOk w x
  bel : Below w0.heap.size w0 w
section
variable {w0 w w' : World} {B b c : Nat} {v : Value} {xs : List NV}
theorem OrdAt.below (h : OrdAt w0 B v xs w) (hb : Below w.heap.size w w') : OrdAt w0 B v xs w' := ⟨own_below h.row hb (Nat.le_refl _), fun x hx => (h.ok x hx).below hb, h.bel.trans (hb.mono h.bel.size)⟩
theorem OrdAt.alloc (h : OrdAt w0 B v xs w) (o : Obj) : OrdAt w0 B v xs (w.alloc o) := h.below ((Below.refl _ _).alloc (Nat.le_refl _) o)
theorem OrdAt.mwr (h : OrdAt w0 B v xs w) (hn : NotBC w b c) (hm : MWr b c w w') (hb : w0.heap.size ≤ b) (hc : w0.heap.size ≤ c) : OrdAt w0 B v xs w' := ⟨own_mwr h.row hn note_ne_box hm, fun x hx => (h.ok x hx).mwr hn hm, hm.bel h.bel hb hc⟩
end
theorem OrdAt.app {w0 w w' : World} {B : Nat} {v v' : Value} {xs : List NV} {x : NV} (h : OrdAt w0 B v xs w) (hg : w.grownBy w' v.ownBlock) (hown : w'.ownsRow B 27 3 v' (xs.length + 1) (ncells (xs ++ [x]))) (hx : NOk w x) (hB : w0.heap.size ≤ B) : OrdAt w0 B v' (xs ++ [x]) w' := by
  refine ⟨by simpa using hown, fun y hy => ?_, h.bel.grown hg h.bel.size (fun k hk => Nat.le_trans hB (h.row.lt k hk).1)⟩
  rcases List.mem_append.1 hy with hy | hy
  · exact (h.ok y hy).row h.row hg note_ne_string
  · rw [List.mem_singleton.1 hy]; exact hx.row h.row hg note_ne_string
theorem lastN_again {α : Type} {r : Nat} (K : List α) (y : α) (hr : 1 ≤ r) : lastN r (lastN r K ++ [y]) = lastN r (K ++ [y]) := by
  have h1 := lastN_snoc (cap := r) K y hr
  rw [← h1]
  unfold lastN
  simp only [List.length_append, List.length_drop, List.length_singleton]
  rw [List.drop_append_of_le_length (by simp only [List.length_drop]; omega)]
theorem keys_al {l xs : List NV} {r : Nat} (h : l.map NV.key = lastN r (xs.map NV.key)) (hal : ∀ x ∈ xs, x.al.length ≤ 2) : ∀ y ∈ l, y.al.length ≤ 1000000 := fun y hy => by
  have h1 : y.key ∈ lastN r (xs.map NV.key) := by rw [← h]; exact List.mem_map_of_mem hy
  obtain ⟨x, hx, e⟩ := List.mem_map.1 (List.mem_of_mem_drop h1)
  have e2 : x.al = y.al := congrArg (fun k => k.2.2) e
  have := hal x hx
  rw [← e2]; omega
theorem keys_le {l xs : List NV} {M : Nat} (h : l.map NV.key = xs.map NV.key) (hal : ∀ x ∈ xs, x.al.length ≤ M) : ∀ y ∈ l, y.al.length ≤ M := fun y hy => by
  have h1 : y.key ∈ xs.map NV.key := by rw [← h]; exact List.mem_map_of_mem hy
  obtain ⟨x, hx, e⟩ := List.mem_map.1 h1
  have e2 : x.al = y.al := congrArg (fun k => k.2.2) e
  rw [← e2]; exact hal x hx
theorem note_typed {w : World} {base size n c : Nat} {A : Option Addr} {xs : List Value} (h : w.ownsRow base 27 size (.slice A n c) n xs) : Typed w 27 A n := Typed.of_own h
set_option maxHeartbeats 8000000 in
theorem mail_order (room n : Int) (w : World) (hr : I64 room) (hn : I64 n) :
    Calls Try.prog 5 #[.int .i64 room, .int .i64 n] w fun e w' => e = .returned (.bool true) ∧ Below w.heap.size w w' := by
  obtain ⟨i0, hi, hz0, hz1, hz2⟩ := info_parts Try.infoNote
  have HWR := Lib.hid (fun W => within_any room 1 8 W hr (by omega) (by omega) (by omega))
  have HWN := Lib.hid (fun W => within_any n 0 30 W hn (by omega) (by omega) (by omega))
  obtain ⟨hr0, hr1⟩ := nWithin_in room (lo := 1) (hi := 8) (by omega)
  obtain ⟨hk0, hk1⟩ := nWithin_in n (lo := 0) (hi := 30) (by omega)
  generalize nWithin room 1 8 = r' at *
  generalize nWithin n 0 30 = k' at *
  obtain ⟨r, rfl⟩ := Int.eq_ofNat_of_zero_le (show 0 ≤ r' by omega)
  obtain ⟨k, rfl⟩ := Int.eq_ofNat_of_zero_le (show 0 ≤ k' by omega)
  have hcr : capN r = r := by unfold capN; rw [if_neg (by omega), if_neg (by omega)]; rfl
  have HCR := Lib.hid hcr
  clear hr hn hcr
  go_enter Try.func5, Try.ntmps5
  go_wp2_with fail
  (with_reducible refine (HWR.out _).mono ?_); rintro e wq ⟨rfl, rfl⟩
  go_wp2_with fail
  (with_reducible refine (HWN.out _).mono ?_); rintro e wq ⟨rfl, rfl⟩
  clear HWR HWN
  go_wp2_with fail
  (with_reducible refine (bnew_any (r : Int) _).mono ?_); rintro e w1 ⟨a, ca, rfl, ha1, hga, hgca, hbel1⟩
  rw [HCR.out] at ha1
  have HA1 := Lib.hid ha1; have HL1 := Lib.hid hbel1
  clear ha1 hbel1
  go_wp2_with fail
  (with_reducible refine (bnew_any (r : Int) _).mono ?_); rintro e w2 ⟨b, cb, rfl, hb2, hgb, hgcb, hbel2⟩
  rw [HCR.out] at hb2
  have HA2 := Lib.hid (HA1.out.below hbel2); have HB2 := Lib.hid hb2; have HL2 := Lib.hid (HL1.out.trans (hbel2.mono HL1.out.size))
  have HNE := Lib.hid (show a ≠ b ∧ ca ≠ cb from ⟨by have := HA1.out.box.lt; omega, by have := HA1.out.clt; omega⟩)
  have HWB := Lib.hid (show w.heap.size ≤ b ∧ w.heap.size ≤ cb from ⟨Nat.le_trans HL1.out.size hgb, Nat.le_trans HL1.out.size hgcb⟩)
  clear hb2 hbel2 HA1 HL1 HCR hgb hgcb
  go_wp2_with fail
  have HL2S := Lib.hid HL2.out.size
  obtain ⟨B2, hB2⟩ : ∃ B2, w2.heap.size = B2 := ⟨_, rfl⟩
  rw [hB2] at HL2S
  have HBE := Lib.hid hB2
  clear hB2
  go_loopg [9, 10] k (fun g x9 x10 wr => ∃ (i : Nat) (xs lb : List NV), i + g = k ∧ x10 = .int .i64 i ∧ xs.length = i ∧ OrdAt w B2 x9 xs wr ∧ B2 ≤ wr.heap.size ∧ BAt a ca r 0 [] wr ∧ BAt b cb r ((i - r : Nat) : Int) lb wr ∧ lb.map NV.key = lastN r (xs.map NV.key) ∧ (∀ x ∈ xs, x.al.length ≤ 2))
  case atStart => exact ⟨0, [], [], by omega, rfl, rfl, ⟨by simpa [ncells] using World.ownsRow_nil _ B2 27 3, (fun x hx => by cases hx), HL2.out⟩, by rw [HBE.out]; exact Nat.le_refl _, HA2.out, by simpa using HB2.out, by simp [lastN], (fun x hx => by cases hx)⟩
  case round =>
    obtain ⟨i, xs, lb, hig, rfl, hlen, ho, hB, ha, hb, hkey, hal⟩ := hrel
    have HO := Lib.hid ho; have HA := Lib.hid ha; have HB := Lib.hid hb; have HK := Lib.hid hkey; have HAL := Lib.hid hal; have HLEN := Lib.hid hlen
    clear ho ha hb hkey hal hlen HA2 HB2 HL2
    cases gk with
    | zero =>
      obtain rfl : i = k := by omega
      obtain ⟨A9, c9, rfl, hc9, hd9⟩ := own_slice HO.out.row
      have hlen := HLEN.out
      clear HLEN
      subst hlen
      go_upto_region 13 with fail
      obtain ⟨q, hq⟩ : ∃ q, xs.length - r = q := ⟨_, rfl⟩
      have HQ := Lib.hid hq
      obtain ⟨X, hX⟩ : ∃ X, (if c9 = q then A9 else Option.map (fun x => x.add (q * 3)) A9) = X := ⟨_, rfl⟩
      have HXD := Lib.hid (show ∀ W, W.ownsRow B2 27 3 (.slice A9 xs.length c9) xs.length (ncells xs) → Sees W W.heap.size 3 X (xs.length - q) (ncells (xs.drop q)) from fun W h => by
        have h2 := (Sees.of_own h).drop (k := q) (cap := c9) (by omega) hc9
        rw [hX, ncells_drop] at h2
        exact h2)
      have HLL := Lib.hid (show ∀ (l : List NV) (K : List NV), l.map NV.key = lastN r (K.map NV.key) → l.length ≤ 8 from fun l K h => by
        have := congrArg List.length h
        rw [List.length_map, lastN_length] at this
        omega)
      go_cut [86] (fun x86 wx => x86 = .bool false ∧ OrdAt w B2 (.slice A9 xs.length c9) xs wx ∧ ∃ la : List NV, BAt a ca r q la wx ∧ la.map NV.key = lastN r (xs.map NV.key))
      case first =>
        have HAD := Lib.hid (HA.out.below (Below.refl wr.heap.size wr).drew); have HBD := Lib.hid (HB.out.below (Below.refl wr.heap.size wr).drew); have HOD := Lib.hid (HO.out.below (Below.refl wr.heap.size wr).drew)
        rw [hq] at HBD
        have hPA := Put_any a ca r 0 [] A9 xs.length c9 xs _ HAD.out (by omega) (Sees.of_own HOD.out.row) (note_typed HOD.out.row) HOD.out.ok (fun y hy => by have := HAL.out y hy; omega) (by omega) (by omega)
        rw [show ([] : List NV).length + xs.length - r = q by rw [List.length_nil, Nat.zero_add]; exact hq, Int.zero_add, List.nil_append] at hPA
        have HPA := Lib.hid hPA
        have tokA : True := trivial; have tokB : True := trivial; have tokC : True := trivial; have tokD : True := trivial
        have tokE : True := trivial; have tokF : True := trivial; have tokG : True := trivial; have tokH : True := trivial
        have i1 : IntKind.i64.wrap ((q : Nat) : Int) = q := IntWalk.i64_in _ (by omega)
        have hq1 : q ≤ xs.length := by omega
        have hq2 : q ≤ c9 := by omega
        clear hPA HO HA HB
        obtain ⟨z, hz⟩ : ∃ z, (xs.length : Int) - (r : Int) = z := ⟨_, rfl⟩
        have iz : IntKind.i64.wrap z = z := IntWalk.i64_in _ (by omega)
        have g3 : (if z < 0 then (0 : Int) else z) = ((q : Nat) : Int) := by split <;> omega
        have g1 : ¬ ((q : Nat) : Int) < 0 := by omega
        have g2 : (0 : Int) ≤ (q : Nat) := by omega
        have g4 : ((q : Nat) : Int) ≤ (xs.length : Nat) := by omega
        have g5 : ((q : Nat) : Int) ≤ (c9 : Nat) := by omega
        have g6 : ((xs.length : Nat) : Int) ≤ (c9 : Nat) := by omega
        clear hq
        go_region_held3 (fun _ => True) (exact trivial) (first
          | (have tk := tokA; (with_reducible refine HPA.out.mono ?_); rintro e w5 ⟨la, rfl, ha5, hka, hma, _⟩; clear tokA tk
             have HA5 := Lib.hid ha5; have HKA := Lib.hid hka
             have HB5 := Lib.hid (HBD.out.other HAD.out.bc hma (Ne.symm HNE.out.1) (Ne.symm HNE.out.2)); have HO5 := Lib.hid (HOD.out.mwr HAD.out.bc hma hga hgca)
             have HLA := Lib.hid (keys_al hka HAL.out); have HLB := Lib.hid (keys_al HK.out HAL.out)
             clear ha5 hka hma)
          | (have tk := tokB; (with_reducible refine (All_any a ca r _ la _ HA5.out (by omega) HLA.out).mono ?_); rintro e w6 ⟨A6, c6, ys, rfl, how6, hkey6, hns6, ha6, hm6, hc6⟩; clear tokB tk
             have HA6 := Lib.hid ha6; have HKY6 := Lib.hid hkey6; have HS6 := Lib.hid (Sees.of_own how6); have HN6 := Lib.hid hns6
             have HB6 := Lib.hid (HB5.out.other HA5.out.bc hm6 (Ne.symm HNE.out.1) (Ne.symm HNE.out.2)); have HO6 := Lib.hid (HO5.out.mwr HA5.out.bc hm6 hga hgca)
             clear how6 hkey6 hns6 ha6 hm6 hc6)
          | (have tk := tokC; (with_reducible refine (notes_same _ _ _ _ _ _ _ _ ys (xs.drop q) _ HS6.out (HXD.out _ HO6.out.row) HN6.out.ok (fun y hy => HO6.out.ok y (List.mem_of_mem_drop hy)) (by rw [HKY6.out, HKA.out, List.map_drop]; unfold lastN; rw [List.length_map]; exact congrArg (fun n => List.drop n (List.map NV.key xs)) HQ.out) (by have := HLL.out _ _ HKA.out; omega) (keys_le HKY6.out HLA.out)).mono ?_); rintro e w7 ⟨rfl, m7, rfl⟩; clear tokC tk
             have HD7 := Lib.hid (belowD (Below.refl w6.heap.size w6) m7)
             have HA7 := Lib.hid (HA6.out.below HD7.out); have HB7 := Lib.hid (HB6.out.below HD7.out); have HO7 := Lib.hid (HO6.out.below HD7.out))
          | (have tk := tokD; (with_reducible refine (All_any b cb r _ lb _ HB7.out (by omega) HLB.out).mono ?_); rintro e w8 ⟨A8, c8, ys8, rfl, how8, hkey8, hns8, hb8, hm8, hc8⟩; clear tokD tk
             have HB8 := Lib.hid hb8; have HKY8 := Lib.hid hkey8; have HS8 := Lib.hid how8; have HN8 := Lib.hid hns8
             have HA8 := Lib.hid (HA7.out.other HB7.out.bc hm8 HNE.out.1 HNE.out.2); have HO8 := Lib.hid (HO7.out.mwr HB7.out.bc hm8 HWB.out.1 HWB.out.2)
             clear how8 hkey8 hns8 hb8 hm8 hc8)
          | (have tk := tokE; (with_reducible refine (All_any a ca r _ la _ HA8.out (by omega) HLA.out).mono ?_); rintro e w9 ⟨A10, c10, ys9, rfl, how9, hkey9, hns9, ha9, hm9, hc10⟩; clear tokE tk
             have HA9 := Lib.hid ha9; have HKY9 := Lib.hid hkey9; have HS9 := Lib.hid (Sees.of_own how9); have HN9 := Lib.hid hns9
             have HS89 := Lib.hid (Sees.of_own (own_mwr HS8.out HA8.out.bc note_ne_box hm9)); have HN89 := Lib.hid (HN8.out.mwr HA8.out.bc hm9)
             have HB9 := Lib.hid (HB8.out.other HA8.out.bc hm9 (Ne.symm HNE.out.1) (Ne.symm HNE.out.2)); have HO9 := Lib.hid (HO8.out.mwr HA8.out.bc hm9 hga hgca)
             clear how9 hkey9 hns9 ha9 hm9 hc10)
          | (have tk := tokF; (with_reducible refine (notes_same _ _ _ _ _ _ _ _ ys8 ys9 _ HS89.out HS9.out HN89.out.ok HN9.out.ok (by rw [HKY8.out, HKY9.out, HK.out, HKA.out]) (by have := HLL.out _ _ HK.out; omega) (keys_le HKY8.out HLB.out)).mono ?_); rintro e w10 ⟨rfl, m10, rfl⟩; clear tokF tk
             have HD10 := Lib.hid (belowD (Below.refl w9.heap.size w9) m10)
             have HA10 := Lib.hid (HA9.out.below HD10.out); have HB10 := Lib.hid (HB9.out.below HD10.out); have HO10 := Lib.hid (HO9.out.below HD10.out))
          | (have tk := tokG; (with_reducible refine (bdropped_any b cb r _ lb _ HB10.out).mono ?_); rintro e wg ⟨rfl, rfl⟩; clear tokG tk)
          | (have tk := tokH; (with_reducible refine (bdropped_any a ca r _ la _ HA10.out).mono ?_); rintro e wh ⟨rfl, rfl⟩; clear tokH tk)
          | fail)
        all_goals
          go_wp2_with fail
          go_meet
          exact ⟨rfl, HO10.out, la, HA10.out, HKA.out⟩
      case rest =>
        obtain ⟨rfl, ho, la, ha, hka⟩ := hcut
        have HO2 := Lib.hid ho; have HA2 := Lib.hid ha; have HKA := Lib.hid hka
        clear ho ha hka HO HA HB HK
        obtain ⟨z, hz⟩ : ∃ z, (xs.length : Int) - (r : Int) = z := ⟨_, rfl⟩
        have iz : IntKind.i64.wrap z = z := IntWalk.i64_in _ (by omega)
        have g3 : (if z < 0 then (0 : Int) else z) = ((q : Nat) : Int) := by split <;> omega
        have g1 : ¬ ((q : Nat) : Int) < 0 := by omega
        have g2 : (0 : Int) ≤ (q : Nat) := by omega
        have g4 : ((q : Nat) : Int) ≤ (xs.length : Nat) := by omega
        have g5 : ((q : Nat) : Int) ≤ (c9 : Nat) := by omega
        have g6 : ((xs.length : Nat) : Int) ≤ (c9 : Nat) := by omega
        have hq1 : q ≤ xs.length := by omega
        have hq2 : q ≤ c9 := by omega
        have hll : la.length = xs.length - q := by have := congrArg List.length HKA.out; rw [List.length_map, lastN_length, List.length_map] at this; omega
        have HLA := Lib.hid hll
        clear hq hll
        go_wp2_with fail
        go_loopg [94] (xs.length - q) (fun g x94 wr => ∃ t : Nat, t + g = xs.length - q ∧ x94 = .int .i64 t ∧ OrdAt w B2 (.slice A9 xs.length c9) xs wr ∧ BAt a ca r q (la.drop t) wr)
        case atStart => exact ⟨0, by omega, rfl, HO2.out, HA2.out⟩
        case round =>
          obtain ⟨t, htg, rfl, ho, ha⟩ := hrel
          have HO := Lib.hid ho; have HA := Lib.hid ha
          clear ho ha HO2 HA2
          cases gk with
          | zero =>
            obtain rfl : t = xs.length - q := by omega
            rw [List.drop_of_length_le (Nat.le_of_eq HLA.out)] at HA
            have HT := Lib.hid (Take_no a ca r q _ HA.out)
            unfold NV.val NV.zero at HT
            simp only [List.length_nil] at HT
            go_wp2_with fail
            (with_reducible refine HT.out.mono ?_); rintro e w5 ⟨rfl, ha5, hb5⟩
            have HA5 := Lib.hid (ha5.alloc (.cells #[.string ⟨#[]⟩, .string ⟨#[]⟩, .slice none 0 0] 27))
            have HL5 := Lib.hid ((HO.out.bel.trans (hb5.mono HO.out.bel.size)).alloc (HO.out.bel.trans (hb5.mono HO.out.bel.size)).size (.cells #[.string ⟨#[]⟩, .string ⟨#[]⟩, .slice none 0 0] 27))
            clear ha5 hb5 HT HA HO
            have HLN := Lib.hid (blen_any a ca r _ [] _ HA5.out)
            have HAL2 := Lib.hid (All_any a ca r _ [] _ HA5.out (by omega) (fun x hx => by cases hx))
            simp only [List.length_nil] at HLN HAL2
            go_wp2_with fail
            (with_reducible refine HLN.out.mono ?_); rintro e wq ⟨rfl, rfl⟩
            go_wp2_with fail
            (with_reducible refine HAL2.out.mono ?_); rintro e w6 ⟨A6, c6, ys, rfl, _, _, _, _, hm6, _⟩
            have HL6 := Lib.hid (hm6.bel HL5.out hga hgca)
            clear hm6 HAL2 HLN HA5 HL5
            go_wp2_with fail
            (with_reducible refine (mail_runs _).mono ?_); rintro e w7 ⟨rfl, hb7⟩
            have HL7 := Lib.hid (HL6.out.trans (hb7.mono HL6.out.size))
            clear hb7
            go_wp2_with fail
            go_ret
            exact ⟨rfl, HL7.out⟩
          | succ gout2 =>
            have htl : t < xs.length - q := by omega
            obtain ⟨ad, hkl, hX2, e0, e1, e2⟩ := (HXD.out _ HO.out.row).note htl
            have hyl : t < la.length := by rw [HLA.out]; exact htl
            have hdk : la.drop t = la[t] :: la.drop (t + 1) := List.drop_eq_getElem_cons hyl
            rw [hdk] at HA
            have hkk : la[t].key = (xs.drop q)[t].key := by
              have e := congrArg (fun l => l[t]?) HKA.out
              unfold lastN at e
              rw [List.length_map, HQ.out, ← List.map_drop] at e
              simp only [List.getElem?_map] at e
              rw [List.getElem?_eq_getElem hyl, List.getElem?_eq_getElem hkl] at e
              injection e
            have HXO := Lib.hid (HO.out.ok _ (List.mem_of_mem_drop (List.getElem_mem hkl)))
            have HXL := Lib.hid (HAL.out _ (List.mem_of_mem_drop (List.getElem_mem hkl)))
            generalize (xs.drop q)[t] = x at *
            generalize la[t] = y at *
            have HKK := Lib.hid hkk
            clear hkk hdk
            subst hX2
            have HO3 := Lib.hid (HO.out.alloc (.cells #[.string x.dst, .string x.group, .slice x.A x.al.length x.c] 27)); have HA3 := Lib.hid (HA.out.alloc (.cells #[.string x.dst, .string x.group, .slice x.A x.al.length x.c] 27))
            have HX3 := Lib.hid (HXO.out.below ((Below.refl _ _).alloc (Nat.le_refl _) (.cells #[.string x.dst, .string x.group, .slice x.A x.al.length x.c] 27)))
            have HK3 := Lib.hid (Blk.mk (heap_alloc_new wr (.cells #[.string x.dst, .string x.group, .slice x.A x.al.length x.c] 27)) : Blk _ _ 27 x.cells)
            have HT := Lib.hid (Take_yes a ca r q y _ _ HA3.out)
            clear HO HA HXO
            go_wp2_with fail
            (with_reducible refine HT.out.mono ?_); rintro e w4 ⟨rfl, ha4, hy4, hm4⟩
            have HO5 := Lib.hid ((HO3.out.mwr HA3.out.bc hm4 hga hgca).alloc (.cells #[.string y.dst, .string y.group, .slice y.A y.al.length y.c] 27))
            have HA5 := Lib.hid (ha4.alloc (.cells #[.string y.dst, .string y.group, .slice y.A y.al.length y.c] 27))
            have HX5 := Lib.hid ((HX3.out.mwr HA3.out.bc hm4).below ((Below.refl _ _).alloc (Nat.le_refl _) (.cells #[.string y.dst, .string y.group, .slice y.A y.al.length y.c] 27)))
            have HY5 := Lib.hid (hy4.below ((Below.refl _ _).alloc (Nat.le_refl _) (.cells #[.string y.dst, .string y.group, .slice y.A y.al.length y.c] 27)))
            have HK5 := Lib.hid ((HK3.out.mwr HA3.out.bc note_ne_box hm4).alloc (.cells #[.string y.dst, .string y.group, .slice y.A y.al.length y.c] 27))
            have HJ5 := Lib.hid (Blk.mk (heap_alloc_new w4 (.cells #[.string y.dst, .string y.group, .slice y.A y.al.length y.c] 27)) : Blk _ _ 27 y.cells)
            have HRB := Lib.hid (HK3.out.mwr HA3.out.bc note_ne_box hm4).lt
            clear ha4 hy4 hm4 HT HO3 HA3 HX3 HK3
            unfold NV.val
            go_upto_region 19 with fail
            obtain ⟨W5, hW5⟩ : ∃ W5, w4.alloc (.cells #[.string y.dst, .string y.group, .slice y.A y.al.length y.c] 27) = W5 := ⟨_, rfl⟩
            rw [hW5] at HO5 HA5 HX5 HY5 HK5 HJ5
            rw [hW5]
            clear hW5
            generalize wr.heap.size = K13 at *
            generalize w4.heap.size = K14 at *
            have z0 := HK5.out.cell 0; have z1 := HK5.out.cell 1; have z2 := HK5.out.cell 2
            have y0 := HJ5.out.cell 0; have y1 := HJ5.out.cell 1; have y2 := HJ5.out.cell 2
            have HJ6 := Lib.hid (HJ5.out.alloc (.cells #[.string x.dst, .string x.group, .slice x.A x.al.length x.c] 27))
            have v0 := HJ6.out.cell 0; have v1 := HJ6.out.cell 1; have v2 := HJ6.out.cell 2
            simp only [NV.cells, List.getElem?_cons_zero, List.getElem?_cons_succ] at z0 z1 z2 y0 y1 y2 v0 v1 v2
            have HS6 := Lib.hid (show Sees ((W5.alloc (.cells #[.string x.dst, .string x.group, .slice x.A x.al.length x.c] 27)).alloc (.cells #[.string y.dst, .string y.group, .slice y.A y.al.length y.c] 27)) ((W5.alloc (.cells #[.string x.dst, .string x.group, .slice x.A x.al.length x.c] 27)).alloc (.cells #[.string y.dst, .string y.group, .slice y.A y.al.length y.c] 27)).heap.size 3 (some ⟨W5.heap.size, 0, none⟩) 1 (ncells [x]) from ((one_note2 W5 x).alloc (Nat.le_refl _) _).more (by simp))
            have HS7 := Lib.hid (show Sees ((W5.alloc (.cells #[.string x.dst, .string x.group, .slice x.A x.al.length x.c] 27)).alloc (.cells #[.string y.dst, .string y.group, .slice y.A y.al.length y.c] 27)) ((W5.alloc (.cells #[.string x.dst, .string x.group, .slice x.A x.al.length x.c] 27)).alloc (.cells #[.string y.dst, .string y.group, .slice y.A y.al.length y.c] 27)).heap.size 3 (some ⟨W5.heap.size + 1, 0, none⟩) 1 (ncells [y]) by have h := one_note2 (W5.alloc (.cells #[.string x.dst, .string x.group, .slice x.A x.al.length x.c] 27)) y; simpa using h)
            have HB7 := Lib.hid (((Below.refl W5.heap.size W5).alloc (Nat.le_refl _) (.cells #[.string x.dst, .string x.group, .slice x.A x.al.length x.c] 27)).alloc (by simp) (.cells #[.string y.dst, .string y.group, .slice y.A y.al.length y.c] 27))
            have HNS := Lib.hid (notes_same _ _ 1 1 1 1 _ _ [x] [y] _ HS6.out HS7.out (fun v hv => by rw [List.mem_singleton.1 hv]; exact HX5.out.below HB7.out) (fun v hv => by rw [List.mem_singleton.1 hv]; exact HY5.out.below HB7.out) (by simp [HKK.out]) (by omega) (fun v hv => by rw [List.mem_singleton.1 hv]; have := HXL.out; omega))
            go_wp2_with fail
            (with_reducible refine HNS.out.mono ?_); rintro e w8 ⟨rfl, m8, rfl⟩
            have HD := Lib.hid (belowD HB7.out m8)
            have HO8 := Lib.hid (HO5.out.below HD.out); have HA8 := Lib.hid (HA5.out.below HD.out)
            clear HD HNS HS6 HS7 HB7 HO5 HA5 HX5 HY5 HK5 HJ5 HJ6 z0 z1 z2 y0 y1 y2 v0 v1 v2
            go_wp2_with fail
            go_roundg gout2
            case measure => omega
            case rel => exact ⟨t + 1, by omega, by go_num, HO8.out, HA8.out⟩
    | succ gout =>
      have hik : i < k := by omega
      have i1 : IntKind.i64.wrap (65 + (i : Int)) = 65 + (i : Int) := IntWalk.i64_in _ (by omega)
      have i2 : IntKind.u8.wrap (65 + (i : Int)) = 65 + (i : Int) := by
        rw [IntKind.wrap_u8]; omega
      obtain ⟨gt, hgt⟩ : ∃ gt, (⟨#[UInt8.ofNat (65 + i)]⟩ : ByteArray) = gt := ⟨_, rfl⟩
      have hcv := fun W => conv_one W (UInt8.ofNat (65 + i)) (65 + (i : Int)) (by rw [UInt8.toNat_ofNat_of_lt' (by show 65 + i < 256; omega)]; omega)
      rw [hgt] at hcv
      clear hgt
      obtain ⟨A9, c9, rfl, hc9, hd9⟩ := own_slice HO.out.row
      go_upto_region 11 with fail
      have HXB := Lib.hid (Blk.mk (heap_alloc_new (wr.alloc (.cells #[.int .u8 (65 + (i : Int))] 5)) (.cells #[.string ⟨#[120]⟩, .string ⟨#[121]⟩] 9)) : Blk _ _ 9 (strs [⟨#[120]⟩, ⟨#[121]⟩]))
      have HXK := Lib.hid (show NOk ((wr.alloc (.cells #[.int .u8 (65 + (i : Int))] 5)).alloc (.cells #[.string ⟨#[120]⟩, .string ⟨#[121]⟩] 9)) (⟨⟨#[116]⟩, gt, some ⟨wr.heap.size + 1, 0, none⟩, 2, [⟨#[120]⟩, ⟨#[121]⟩]⟩ : NV) from ⟨by have h := HXB.out.sees (size := 1) (n := 2) rfl (List.prefix_refl _); simpa using h, by have h := typed_blk (n := 2) HXB.out; simpa using h, Nat.le_refl _, by simp⟩)
      have HX3 := Lib.hid (HXK.out.below ((Below.refl _ _).alloc (Nat.le_refl _) (.cells #[.string ⟨#[116]⟩, .string gt, .slice (some ⟨wr.heap.size + 1, 0, none⟩) 2 2] 27)))
      have HO3 := Lib.hid (((HO.out.alloc (.cells #[.int .u8 (65 + (i : Int))] 5)).alloc (.cells #[.string ⟨#[120]⟩, .string ⟨#[121]⟩] 9)).alloc (.cells #[.string ⟨#[116]⟩, .string gt, .slice (some ⟨wr.heap.size + 1, 0, none⟩) 2 2] 27))
      have HA3 := Lib.hid (((HA.out.alloc (.cells #[.int .u8 (65 + (i : Int))] 5)).alloc (.cells #[.string ⟨#[120]⟩, .string ⟨#[121]⟩] 9)).alloc (.cells #[.string ⟨#[116]⟩, .string gt, .slice (some ⟨wr.heap.size + 1, 0, none⟩) 2 2] 27))
      have HB3 := Lib.hid (((HB.out.alloc (.cells #[.int .u8 (65 + (i : Int))] 5)).alloc (.cells #[.string ⟨#[120]⟩, .string ⟨#[121]⟩] 9)).alloc (.cells #[.string ⟨#[116]⟩, .string gt, .slice (some ⟨wr.heap.size + 1, 0, none⟩) 2 2] 27))
      have HK3 := Lib.hid (show Blk (((wr.alloc (.cells #[.int .u8 (65 + (i : Int))] 5)).alloc (.cells #[.string ⟨#[120]⟩, .string ⟨#[121]⟩] 9)).alloc (.cells #[.string ⟨#[116]⟩, .string gt, .slice (some ⟨wr.heap.size + 1, 0, none⟩) 2 2] 27)) (wr.heap.size + 1 + 1) 27 (⟨⟨#[116]⟩, gt, some ⟨wr.heap.size + 1, 0, none⟩, 2, [⟨#[120]⟩, ⟨#[121]⟩]⟩ : NV).cells by
        have h := (Blk.mk (heap_alloc_new ((wr.alloc (.cells #[.int .u8 (65 + (i : Int))] 5)).alloc (.cells #[.string ⟨#[120]⟩, .string ⟨#[121]⟩] 9)) (.cells #[.string ⟨#[116]⟩, .string gt, .slice (some ⟨wr.heap.size + 1, 0, none⟩) 2 2] 27)) : Blk _ _ 27 (⟨⟨#[116]⟩, gt, some ⟨wr.heap.size + 1, 0, none⟩, 2, [⟨#[120]⟩, ⟨#[121]⟩]⟩ : NV).cells)
        simpa using h)
      have HRL := Lib.hid (fun q hq => (HO.out.row.lt q hq).2)
      obtain ⟨x, hx⟩ : ∃ x : NV, (⟨⟨#[116]⟩, gt, some ⟨wr.heap.size + 1, 0, none⟩, 2, [⟨#[120]⟩, ⟨#[121]⟩]⟩ : NV) = x := ⟨_, rfl⟩
      have hx1 : x.dst = ⟨#[116]⟩ ∧ x.group = gt ∧ x.A = some ⟨wr.heap.size + 1, 0, none⟩ ∧ x.c = 2 ∧ x.al.length = 2 := by subst hx; exact ⟨rfl, rfl, rfl, rfl, rfl⟩
      rw [hx] at HX3 HK3
      obtain ⟨W, hW⟩ : ∃ W, ((wr.alloc (.cells #[.int .u8 (65 + (i : Int))] 5)).alloc (.cells #[.string ⟨#[120]⟩, .string ⟨#[121]⟩] 9)).alloc (.cells #[.string ⟨#[116]⟩, .string gt, .slice (some ⟨wr.heap.size + 1, 0, none⟩) 2 2] 27) = W := ⟨_, rfl⟩
      rw [hW] at HX3 HO3 HA3 HB3 HK3
      rw [hW]
      have HWZ := Lib.hid (show wr.heap.size ≤ W.heap.size by rw [← hW]; simp; omega)
      clear hW hx HXB HXK HO HA HB
      have HX2 := Lib.hid hx1.2.2.2.2
      have hrb : ∀ q, (Value.slice A9 xs.length c9).ownBlock = some q → q < wr.heap.size + 1 + 1 := fun q hq => by have := HRL.out q hq; omega
      have HRB := Lib.hid hrb
      clear hx1 HRL hrb i1 i2 hcv
      generalize wr.heap.size + 1 + 1 = K11 at *
      have z0 := HK3.out.cell 0; have z1 := HK3.out.cell 1; have z2 := HK3.out.cell 2
      simp only [NV.cells, List.getElem?_cons_zero, List.getElem?_cons_succ] at z0 z1 z2
      have HO4 := Lib.hid (HO3.out.alloc (.cells #[.string x.dst, .string x.group, .slice x.A x.al.length x.c] 27)); have HA4 := Lib.hid (HA3.out.alloc (.cells #[.string x.dst, .string x.group, .slice x.A x.al.length x.c] 27)); have HB4 := Lib.hid (HB3.out.alloc (.cells #[.string x.dst, .string x.group, .slice x.A x.al.length x.c] 27)); have HK4 := Lib.hid (HK3.out.alloc (.cells #[.string x.dst, .string x.group, .slice x.A x.al.length x.c] 27))
      have HX4 := Lib.hid (HX3.out.below ((Below.refl _ _).alloc (Nat.le_refl _) (.cells #[.string x.dst, .string x.group, .slice x.A x.al.length x.c] 27)))
      have HS4 := Lib.hid (one_note2 W x)
      have HWB2 := Lib.hid (show B2 ≤ (W.alloc (.cells #[.string x.dst, .string x.group, .slice x.A x.al.length x.c] 27)).heap.size by have := HWZ.out; simp only [World.size_alloc]; omega)
      have hxl : xs.length ≤ 30 := by have := HLEN.out; omega
      go_wp2_with (at_builtin; refine wpList_append_sees rfl (.tmp 44) (.tmp 46) 34 rfl B2 27 i0 (.agg #[.string ⟨#[]⟩, .string ⟨#[]⟩, .slice none 0 0]) 3 56 Try.underlying34 hi hz0 hz1 hz2 rfl (by decide) _ xs.length (ncells xs) rfl HO4.out.row _ _ 1 _ (ncells [x]) rfl HS4.out (ncells_one _) (by unfold maxLen; omega) (by omega) HWB2.out ?_)
      intro v5 w5 hown5 hg5
      rw [← ncells_append] at hown5
      have HA5 := Lib.hid (HA4.out.row HO4.out.row hg5 note_ne_string note_ne_box); have HB5 := Lib.hid (HB4.out.row HO4.out.row hg5 note_ne_string note_ne_box)
      have HX5 := Lib.hid (HX4.out.row HO4.out.row hg5 note_ne_string)
      have HK5 := Lib.hid (HK4.out.grown hg5 (fun e => absurd (HRB.out _ e.symm) (Nat.lt_irrefl _)))
      have HO5 := Lib.hid (HO4.out.app hg5 hown5 HX4.out HL2S.out)
      have HS5 := Lib.hid (show B2 ≤ w5.heap.size from Nat.le_trans HWB2.out hg5.size)
      clear hown5 hg5 HO4 HA4 HB4 HK4 HX4 HS4 HWB2 HO3 HA3 HB3 HK3 HX3 z0 z1 z2 HRB
      obtain ⟨A5, c5, rfl, hc5, hd5⟩ := own_slice HO5.out.row
      have z0 := HK5.out.cell 0; have z1 := HK5.out.cell 1; have z2 := HK5.out.cell 2
      simp only [NV.cells, List.getElem?_cons_zero, List.getElem?_cons_succ] at z0 z1 z2
      have hlbl : lb.length = min i r := by have := congrArg List.length HK.out; rwa [List.length_map, lastN_length, List.length_map, HLEN.out] at this
      have HW6 := Lib.hid ((Below.refl w5.heap.size w5).alloc (Nat.le_refl _) (.cells #[.string x.dst, .string x.group, .slice x.A x.al.length x.c] 27))
      have HK6 := Lib.hid (Blk.mk (heap_alloc_new w5 (.cells #[.string x.dst, .string x.group, .slice x.A x.al.length x.c] 27)) : Blk _ _ 27 (ncells [x]))
      have HPB := Lib.hid (Put_any b cb r ((i - r : Nat) : Int) lb (some ⟨w5.heap.size, 0, none⟩) 1 1 [x] _ (HB5.out.below HW6.out) (by omega) (HK6.out.sees rfl (List.prefix_refl _)) (typed_blk HK6.out) (fun y hy => by rw [List.mem_singleton.1 hy]; exact HX5.out.below HW6.out) (fun y hy => by rw [List.mem_singleton.1 hy, HX2.out]; omega) (by omega) (by omega))
      go_wp2_with fail
      (with_reducible refine HPB.out.mono ?_); rintro e w6 ⟨lb2, rfl, hb6, hk6, hm6, _⟩
      have HNB := Lib.hid (HB5.out.below HW6.out).bc
      have HB6 := Lib.hid hb6; have HA6 := Lib.hid ((HA5.out.below HW6.out).other HNB.out hm6 HNE.out.1 HNE.out.2); have HO6 := Lib.hid ((HO5.out.below HW6.out).mwr HNB.out hm6 HWB.out.1 HWB.out.2)
      have HK7 := Lib.hid (show lb2.map NV.key = lastN r ((xs ++ [x]).map NV.key) by rw [hk6, List.map_append, HK.out, List.map_append, List.map_singleton]; exact lastN_again _ _ (by omega))
      have HB7 := Lib.hid (show B2 ≤ w6.heap.size by have h1 := HS5.out; have h2 := HW6.out.size; have h3 := hm6.size; omega)
      clear hb6 hk6 hm6 HPB HNB HB5 HA5 HO5 HK5 HK6 HW6 HX5 z0 z1 z2
      rw [show ((i - r : Nat) : Int) + ((lb.length + 1 - r : Nat) : Int) = ((i + 1 - r : Nat) : Int) by omega] at HB6
      go_wp2_with fail
      go_roundg gout
      case measure => omega
      case rel => exact ⟨i + 1, xs ++ [x], lb2, by omega, by go_num, by rw [List.length_append, HLEN.out]; rfl, by have h := HO6.out; simpa using h, HB7.out, HA6.out, HB6.out, HK7.out, fun y hy => by
        rcases List.mem_append.1 hy with hy | hy
        · exact HAL.out y hy
        · rw [List.mem_singleton.1 hy, HX2.out]; omega⟩
end Go.Proofs.Ytepgllmenljkcaa
