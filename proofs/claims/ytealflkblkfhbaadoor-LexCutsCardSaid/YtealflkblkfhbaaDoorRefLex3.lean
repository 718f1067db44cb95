/- klaxonref7.One. -/
import Derived.Test.YtealflkblkfhbaaDoorRefLex2
import Derived.RegionTactic
namespace Go.Proofs.YtealflkblkfhbaaDoor
open Go.ChangeShapes Go.WideShapes Go.ChangeAt Go.RowKit
set_option linter.unusedVariables false
set_option linter.unusedSimpArgs false
set_option maxRecDepth 100000
theorem oneAns_no {r : Option (Tok × Nat)} {a : Nat} {w w' : World} {e : Ending} (hr : r = none) (hb : Below w.heap.size w w') (t : Tok) (v : Int) (he : e = .returned (.tuple #[.agg #[.int .i64 t.kd, .int .i64 t.n, .int .i64 t.at_, .string t.tx], .int .i64 v, .bool false])) : OneAns r a w e w' := by subst hr; exact ⟨hb, t, v, he⟩
theorem oneAns_yes {r : Option (Tok × Nat)} {a : Nat} {w w' : World} {e : Ending} {t : Tok} {u : Nat} (hr : r = some (t, u)) (hb : Below w.heap.size w w') (he : e = .returned (.tuple #[.agg #[.int .i64 t.kd, .int .i64 t.n, .int .i64 a, .string t.tx], .int .i64 ((a + u : Nat) : Int), .bool true])) : OneAns r a w e w' := by subst hr; exact ⟨hb, he⟩
/-- Within One: the answer's box, the token's box, all that was there. -/
structure OneAt (w0 : World) (b4 b8 : Nat) (kd n a : Int) (tx : ByteArray) (W : World) : Prop where
  k4 : Blk W b4 27 [.int .i64 0, .int .i64 0, .int .i64 0, .string ⟨#[]⟩]
  k8 : Blk W b8 27 [.int .i64 kd, .int .i64 n, .int .i64 a, .string tx]
  bel : Below w0.heap.size w0 W
  le4 : w0.heap.size ≤ b4
  le8 : w0.heap.size ≤ b8
  ne : b4 ≠ b8
theorem OneAt.below {w0 W W' : World} {b4 b8 : Nat} {kd n a : Int} {tx : ByteArray} (h : OneAt w0 b4 b8 kd n a tx W) (hb : Below W.heap.size W W') : OneAt w0 b4 b8 kd n a tx W' :=
  ⟨h.k4.below hb h.k4.lt, h.k8.below hb h.k8.lt, h.bel.trans (hb.mono h.bel.size), h.le4, h.le8, h.ne⟩
theorem OneAt.cells {w0 W : World} {b4 b8 : Nat} {kd n a : Int} {tx : ByteArray} (h : OneAt w0 b4 b8 kd n a tx W) : W.cell? ⟨b8, 0, none⟩ = some (.int .i64 kd) ∧ W.cell? ⟨b8, 1, none⟩ = some (.int .i64 n) ∧ W.cell? ⟨b8, 2, none⟩ = some (.int .i64 a) ∧ W.cell? ⟨b8, 3, none⟩ = some (.string tx) := ⟨h.k8.cell 0, h.k8.cell 1, h.k8.cell 2, h.k8.cell 3⟩
theorem OneAt.cells4 {w0 W : World} {b4 b8 : Nat} {kd n a : Int} {tx : ByteArray} (h : OneAt w0 b4 b8 kd n a tx W) : W.cell? ⟨b4, 0, none⟩ = some (.int .i64 0) ∧ W.cell? ⟨b4, 1, none⟩ = some (.int .i64 0) ∧ W.cell? ⟨b4, 2, none⟩ = some (.int .i64 0) ∧ W.cell? ⟨b4, 3, none⟩ = some (.string ⟨#[]⟩) := ⟨h.k4.cell 0, h.k4.cell 1, h.k4.cell 2, h.k4.cell 3⟩
theorem OneAt.fr4 {w0 W : World} {b4 b8 : Nat} {kd n a : Int} {tx : ByteArray} (h : OneAt w0 b4 b8 kd n a tx W) : W.frozen? ⟨b4, 0, none⟩ = false ∧ W.frozen? ⟨b4, 1, none⟩ = false ∧ W.frozen? ⟨b4, 2, none⟩ = false ∧ W.frozen? ⟨b4, 3, none⟩ = false := ⟨h.k4.frozen 0, h.k4.frozen 1, h.k4.frozen 2, h.k4.frozen 3⟩
theorem OneAt.fr8 {w0 W : World} {b4 b8 : Nat} {kd n a : Int} {tx : ByteArray} (h : OneAt w0 b4 b8 kd n a tx W) : W.frozen? ⟨b8, 0, none⟩ = false ∧ W.frozen? ⟨b8, 1, none⟩ = false ∧ W.frozen? ⟨b8, 2, none⟩ = false ∧ W.frozen? ⟨b8, 3, none⟩ = false := ⟨h.k8.frozen 0, h.k8.frozen 1, h.k8.frozen 2, h.k8.frozen 3⟩
theorem OneAt.put0 {w0 W : World} {b4 b8 : Nat} {kd n a : Int} {tx : ByteArray} (h : OneAt w0 b4 b8 kd n a tx W) (z : Int) : OneAt w0 b4 b8 z n a tx (W.setCell ⟨b8, 0, none⟩ (.int .i64 z)) :=
  ⟨h.k4.far h.ne _, h.k8.set 0 (.int .i64 z), h.bel.setCell (p := ⟨b8, 0, none⟩) h.le8 _, h.le4, h.le8, h.ne⟩
theorem OneAt.put1 {w0 W : World} {b4 b8 : Nat} {kd n a : Int} {tx : ByteArray} (h : OneAt w0 b4 b8 kd n a tx W) (z : Int) : OneAt w0 b4 b8 kd z a tx (W.setCell ⟨b8, 1, none⟩ (.int .i64 z)) :=
  ⟨h.k4.far h.ne _, h.k8.set 1 (.int .i64 z), h.bel.setCell (p := ⟨b8, 1, none⟩) h.le8 _, h.le4, h.le8, h.ne⟩
theorem OneAt.put3 {w0 W : World} {b4 b8 : Nat} {kd n a : Int} {tx : ByteArray} (h : OneAt w0 b4 b8 kd n a tx W) (z : ByteArray) : OneAt w0 b4 b8 kd n a z (W.setCell ⟨b8, 3, none⟩ (.string z)) :=
  ⟨h.k4.far h.ne _, h.k8.set 3 (.string z), h.bel.setCell (p := ⟨b8, 3, none⟩) h.le8 _, h.le4, h.le8, h.ne⟩
/-- The answer's box written anew. -/
theorem OneAt.told {w0 W : World} {b4 b8 : Nat} {kd n a : Int} {tx : ByteArray} (h : OneAt w0 b4 b8 kd n a tx W) (v0 v1 v2 v3 : Value) : Below w0.heap.size w0 (set4W W b4 v0 v1 v2 v3) ∧ Blk (set4W W b4 v0 v1 v2 v3) b4 27 [v0, v1, v2, v3] := ⟨set4W_below h.bel h.le4 v0 v1 v2 v3, set4W_blk h.k4 v0 v1 v2 v3⟩
theorem OneAt.alloc {w0 W : World} {b4 b8 : Nat} {kd n a : Int} {tx : ByteArray} (h : OneAt w0 b4 b8 kd n a tx W) (o : Obj) : OneAt w0 b4 b8 kd n a tx (W.alloc o) := h.below ((Below.refl _ _).alloc (Nat.le_refl _) o)
theorem unq_grow {r acc : List UInt8} {k j : Nat} {c : UInt8} (ha : ¬ acc.length ≤ 24) : unq (r.drop k) acc = unq (r.drop j) (acc ++ [c]) := by
  rw [unq_long (by omega), unq_long (by rw [List.length_append]; omega)]
set_option maxHeartbeats 8000000 in
theorem one_any : OneSaid := by
  intro s a w hs ha
  have HRS := Lib.hid (show s.data.toList.length = s.size by simp)
  obtain ⟨tot, htot⟩ : ∃ tot, firstT ⟨(s.data.toList.drop a).toArray⟩ = tot := ⟨_, rfl⟩
  have hhd : ((s.data.toList.drop a).toArray.toList).headD 0 = s[a]'ha := by
    rw [List.headD_eq_head?_getD, List.head?_eq_getElem?, List.getElem?_drop]
    rw [List.getElem?_eq_getElem (by simpa using ha)]; rfl
  have HF : Hid (tot = if isNum (s.data.toList.drop a) = true then numT (numF (s.data.toList.drop a)) else if smallN (s[a]'ha).toNat = true then wordT ⟨(s.data.toList.drop a).toArray⟩ else if ((s[a]'ha).toNat == 34) = true then quotedT (s.data.toList.drop a) else signIn (s.data.toList.drop a) signsL) := Lib.hid (by rw [← htot]; unfold firstT; rw [hhd])
  rw [htot]
  clear hhd htot
  have HST : Hid (OneAt w w.heap.size (w.heap.size + 1) 0 0 a ⟨#[]⟩ ((w.alloc (.cells #[.int .i64 0, .int .i64 0, .int .i64 0, .string ⟨#[]⟩] 27)).alloc (.cells #[.int .i64 0, .int .i64 0, .int .i64 a, .string ⟨#[]⟩] 27))) := Lib.hid (by
    have h4 := Blk.mk (heap_alloc_new w (.cells #[.int .i64 0, .int .i64 0, .int .i64 0, .string ⟨#[]⟩] 27))
    have h4b := (Below.refl w.heap.size w).alloc (Nat.le_refl _) (.cells #[.int .i64 0, .int .i64 0, .int .i64 0, .string ⟨#[]⟩] 27)
    have h8 := Blk.mk (heap_alloc_new (w.alloc (.cells #[.int .i64 0, .int .i64 0, .int .i64 0, .string ⟨#[]⟩] 27)) (.cells #[.int .i64 0, .int .i64 0, .int .i64 a, .string ⟨#[]⟩] 27))
    have hsz : (w.alloc (.cells #[.int .i64 0, .int .i64 0, .int .i64 0, .string ⟨#[]⟩] 27)).heap.size = w.heap.size + 1 := by simp
    rw [hsz] at h8
    exact ⟨h4.below ((Below.refl _ _).alloc (Nat.le_refl _) _) h4.lt, h8, h4b.alloc h4b.size _, Nat.le_refl _, Nat.le_succ _, by omega⟩)
  obtain ⟨W2, hW2⟩ : ∃ W, (w.alloc (.cells #[.int .i64 0, .int .i64 0, .int .i64 0, .string ⟨#[]⟩] 27)).alloc (.cells #[.int .i64 0, .int .i64 0, .int .i64 a, .string ⟨#[]⟩] 27) = W := ⟨_, rfl⟩
  obtain ⟨b8, hb8⟩ : ∃ b, w.heap.size + 1 = b := ⟨_, rfl⟩
  rw [hW2, hb8] at HST
  have HW2 := Lib.hid hW2; have HB8 := Lib.hid hb8
  clear hW2 hb8
  obtain ⟨b4, hb4⟩ : ∃ b, w.heap.size = b := ⟨_, rfl⟩
  have HB4 := Lib.hid hb4
  have HST2 : Hid (OneAt w b4 b8 0 0 a ⟨#[]⟩ W2) := Lib.hid (by rw [← HB4.out]; exact HST.out)
  clear hb4 HST
  have HN : Hid (isNum (s.data.toList.drop a) = (digitN (s[a]'ha).toNat || ((s[a]'ha).toNat == 45 && (decide (a + 1 < s.size) && digitN ((s.data.toList.drop (a + 1)).headD 0).toNat)))) := Lib.hid (by
    unfold isNum
    have h1 : (s.data.toList.drop a).headD 0 = s[a]'ha := by
      rw [List.headD_eq_head?_getD, List.head?_eq_getElem?, List.getElem?_drop, List.getElem?_eq_getElem (by simpa using ha)]; rfl
    have h2 : decide (1 < (s.data.toList.drop a).length) = decide (a + 1 < s.size) := by
      rw [List.length_drop, HRS.out, decide_eq_decide]; omega
    rw [h1, h2, List.drop_drop])
  obtain ⟨num, hnum⟩ : ∃ b, isNum (s.data.toList.drop a) = b := ⟨_, rfl⟩
  rw [hnum] at HF HN
  clear hnum
  go_enter Tryd.func25, Tryd.ntmps25
  go_upto_region 3 with fail
  rw [HW2.out, HB8.out, HB4.out]
  clear HW2 HB8 HB4
  have HD0 := Lib.hid (rdigit_any (s[a]'ha).toNat W2)
  obtain ⟨d0, hd0⟩ : ∃ d, digitN (s[a]'ha).toNat = d := ⟨_, rfl⟩
  rw [hd0] at HD0 HN
  clear hd0
  go_cut [22] (fun x22 wx => x22 = .bool num ∧ wx = W2)
  case first =>
    cases d0 with
    | true =>
      have HE := Lib.hid (show num = true by rw [HN.out]; rfl)
      go_wp2_with fail
      (with_reducible refine HD0.out.mono ?_); rintro e w' ⟨rfl, rfl⟩
      go_wp2_with fail
      go_meet
      exact ⟨by rw [HE.out], rfl⟩
    | false =>
      by_cases h45 : (s[a]'ha).toNat = 45
      · have t1 : (((s[a]'ha).toNat : Int) == 45) = true := by rw [h45]; rfl
        obtain ⟨j, hj⟩ : ∃ j, a + 1 = j := ⟨_, rfl⟩
        rw [hj] at HN
        have hji : (a : Int) + 1 = j := by omega
        by_cases hl : j < s.size
        · have HD1 := Lib.hid (rdigit_any (s[j]'hl).toNat W2)
          have HE := Lib.hid (show num = digitN (s[j]'hl).toNat by
            rw [HN.out, h45, decide_eq_true hl]
            rw [List.headD_eq_head?_getD, List.head?_eq_getElem?, List.getElem?_drop, List.getElem?_eq_getElem (by simpa using hl)]; rfl)
          clear hj h45
          go_wp2_with fail
          (with_reducible refine HD0.out.mono ?_); rintro e w' ⟨rfl, rfl⟩
          go_wp2_with fail
          (with_reducible refine HD1.out.mono ?_); rintro e w' ⟨rfl, rfl⟩
          go_wp2_with fail
          go_meet
          exact ⟨by rw [HE.out], rfl⟩
        · have hl2 : (s.size : Int) ≤ j := by omega
          have HE := Lib.hid (show num = false by rw [HN.out, h45, decide_eq_false hl]; rfl)
          clear hj h45
          go_wp2_with fail
          (with_reducible refine HD0.out.mono ?_); rintro e w' ⟨rfl, rfl⟩
          go_wp2_with fail
          go_meet
          exact ⟨by rw [HE.out], rfl⟩
      · have t1 : (((s[a]'ha).toNat : Int) == 45) = false := by rw [beq_eq_false_iff_ne]; omega
        have HE := Lib.hid (show num = false by rw [HN.out, beq_eq_false_iff_ne.2 h45]; rfl)
        clear h45
        go_wp2_with fail
        (with_reducible refine HD0.out.mono ?_); rintro e w' ⟨rfl, rfl⟩
        go_wp2_with fail
        go_meet
        exact ⟨by rw [HE.out], rfl⟩
  case rest =>
    obtain ⟨rfl, rfl⟩ := hcut
    clear HD0 HN
    cases num with
    | true =>
      have HE := Lib.hid (show tot = numT (numF (s.data.toList.drop a)) by rw [HF.out, if_pos rfl])
      clear HF
      obtain ⟨below, hbe⟩ : ∃ b, ((s[a]'ha).toNat == 45) = b := ⟨_, rfl⟩
      obtain ⟨L, hL⟩ : ∃ L, s.data.toList.drop a = L := ⟨_, rfl⟩
      rw [hL] at HE
      have hhd : (L.head? = some 45) ↔ below = true := by
        rw [← hbe, beq_iff_eq]
        have h1 : L.head? = some (s[a]'ha) := by
          rw [← hL, List.head?_eq_getElem?, List.getElem?_drop, List.getElem?_eq_getElem (by simpa using ha)]; rfl
        rw [h1]
        constructor
        · intro h; injection h with h; rw [h]; rfl
        · intro h; congr 1; exact UInt8.toNat_inj.1 (by rw [h]; rfl)
      obtain ⟨k0, hk0⟩ : ∃ k0 : Nat, (if below = true then 1 else 0) = k0 := ⟨_, rfl⟩
      have HNF : Hid (numF L = if below = true then numAt k0 0 (L.drop k0) else match numAt k0 0 (L.drop k0) with | none => none | some (n, u) => if n = -9223372036854775808 then none else some (-n, u)) := Lib.hid (by
        unfold numF
        cases below with
        | true => rw [if_pos (hhd.2 rfl), if_pos rfl, ← hk0]; rfl
        | false => rw [if_neg (fun h => by have := hhd.1 h; cases this), if_neg (by simp), ← hk0]; rfl)
      obtain ⟨tot0, htot0⟩ : ∃ tot0, numAt k0 0 (L.drop k0) = tot0 := ⟨_, rfl⟩
      rw [htot0] at HNF
      have hk1 : k0 ≤ 1 := by rw [← hk0]; split <;> omega
      obtain ⟨j0, hj0⟩ : ∃ j0, a + k0 = j0 := ⟨_, rfl⟩
      have HT0 : Hid (tot0 = numAt (j0 - a) 0 (s.data.toList.drop j0)) := Lib.hid (by rw [← htot0, ← hL, List.drop_drop, hj0, show j0 - a = k0 by omega])
      have t0 : (((s[a]'ha).toNat : Int) == 45) = below := by
        rw [← hbe]
        by_cases h : (s[a]'ha).toNat = 45
        · rw [h]; rfl
        · rw [beq_eq_false_iff_ne.2 h, beq_eq_false_iff_ne.2 (by omega)]
      have hj0a : a ≤ j0 := by omega
      have hj0s : j0 ≤ s.size := by omega
      have HK0 := Lib.hid hk0; have HJ0 := Lib.hid hj0
      clear hbe hhd htot0 hk0 hL hj0 hk1
      go_upto_if 45 with fail
      go_cut [9] (fun x9 wx => x9 = .int .i64 j0 ∧ wx = wc)
      case first =>
        cases below with
        | true =>
          have hji : (a : Int) + 1 = j0 := by have h1 := HK0.out; have h2 := HJ0.out; rw [if_pos rfl] at h1; omega
          have t1 : (((s[a]'ha).toNat : Int) == 45) = true := t0
          clear t0
          go_wp2_with fail
          go_meet
          exact ⟨rfl, rfl⟩
        | false =>
          have hji : a = j0 := by have h1 := HK0.out; have h2 := HJ0.out; rw [if_neg (by simp)] at h1; omega
          have t1 : (((s[a]'ha).toNat : Int) == 45) = false := t0
          clear t0
          go_wp2_with fail
          go_meet
          exact ⟨by rw [hji], rfl⟩
      case rest =>
        obtain ⟨rfl, rfl⟩ := hcut
        clear HK0 HJ0
        go_upto_block 1 with fail
        go_cut [9, 10] from 48 to 74 (fun x9 x10 wx => ∃ (j : Nat) (n : Int), x9 = .int .i64 j ∧ x10 = .int .i64 n ∧ wx = wc ∧ Hid (tot0 = some (n, j - a)) ∧ a ≤ j ∧ Hid (-9223372036854775808 ≤ n) ∧ Hid (n ≤ 0))
        case first =>
          go_wp2_with fail
          go_loopg [9, 10] (s.size - j0) (fun g x9 x10 wr => ∃ (j : Nat) (n : Int), j + g = s.size ∧ x9 = .int .i64 j ∧ x10 = .int .i64 n ∧ wr = wc ∧ Hid (tot0 = numAt (j - a) n (s.data.toList.drop j)) ∧ a ≤ j ∧ Hid (-9223372036854775808 ≤ n) ∧ Hid (n ≤ 0))
          case atStart => exact ⟨j0, 0, by omega, rfl, rfl, rfl, HT0, hj0a, Lib.hid (by omega), Lib.hid (by omega)⟩
          case round =>
            obtain ⟨j, n, hjg, rfl, rfl, rfl, HT, haj, HLO, HHI⟩ := hrel
            clear HT0
            cases gk with
            | zero =>
              have hjm : j = s.size := by omega
              have HS := Lib.hid (show tot0 = some (n, j - a) by rw [HT.out, List.drop_eq_nil_of_le (by rw [HRS.out]; omega), numAt_end])
              have hjm2 : (s.size : Int) ≤ j := by omega
              clear hjm HT
              go_wp2_with fail
              go_meet
              exact ⟨j, n, rfl, rfl, rfl, HS, haj, HLO, HHI⟩
            | succ g =>
              have hlt : j < s.size := by omega
              have HDR := Lib.hid (drop_byte s.data.toList j (by rw [HRS.out]; exact hlt))
              have HGK : Hid (s.data.toList[j]'(by rw [HRS.out]; exact hlt) = s[j]) := Lib.hid rfl
              rw [HGK.out] at HDR
              have HC := Lib.hid (rdigit_any (s[j].toNat) wr)
              obtain ⟨b, hb⟩ : ∃ b, digitN (s[j]).toNat = b := ⟨_, rfl⟩
              rw [hb] at HC
              have HBB := Lib.hid hb
              clear hb
              cases b with
              | false =>
                have HS := Lib.hid (show tot0 = some (n, j - a) by rw [HT.out, HDR.out, numAt_stop HBB.out])
                clear HT
                go_wp2_with fail
                (with_reducible refine HC.out.mono ?_); rintro e w' ⟨rfl, rfl⟩
                go_wp2_with fail
                go_meet
                exact ⟨j, n, rfl, rfl, rfl, HS, haj, HLO, HHI⟩
              | true =>
                obtain ⟨hd1, hd2⟩ := digit_range HBB.out
                obtain ⟨dg, hdg⟩ : ∃ dg : Nat, s[j].toNat = 48 + dg := ⟨s[j].toNat - 48, by omega⟩
                have hdg9 : dg ≤ 9 := by omega
                obtain ⟨td, htd, htd1, htd2, htd3⟩ := tdiv_min (dg : Int) (by omega) (by omega)
                have z0 : IntKind.u8.wrap ((s[j].toNat : Int) - 48) = dg := by rw [hdg]; simp [IntKind.wrap, IntKind.bits, IntKind.signed]; omega
                have HDG := Lib.hid (show ((s[j].toNat : Int) - 48) = dg by omega)
                have z1 : IntKind.i64.wrap (-9223372036854775808 + (dg : Int)) = -9223372036854775808 + (dg : Int) := by rw [IntKind.wrap_i64]; omega
                have z2 : IntKind.i64.wrap td = td := by rw [IntKind.wrap_i64]; omega
                by_cases hov : n < td
                · have HS := Lib.hid (show tot0 = none by rw [HT.out, HDR.out, numAt_over HBB.out (by rw [HDG.out, htd]; exact hov)])
                  have HE2 := Lib.hid (show tot = none by
                    rw [HE.out, HNF.out, HS.out]
                    cases below <;> rfl)
                  clear htd1 htd2 htd3 hdg hd1 hd2 HT HLO HHI
                  obtain ⟨c0, c1, c2, c3⟩ := HST2.out.cells
                  obtain ⟨f0, f1, f2, f3⟩ := HST2.out.fr4
                  obtain ⟨d0', d1, d2, d3⟩ := HST2.out.cells4
                  obtain ⟨hbz, hkz⟩ := HST2.out.told (.int .i64 0) (.int .i64 0) (.int .i64 a) (.string ⟨#[]⟩)
                  have HBZ := Lib.hid hbz; have HKZ := Lib.hid hkz
                  clear hbz hkz
                  go_wp2_with fail
                  (with_reducible refine HC.out.mono ?_); rintro e w' ⟨rfl, rfl⟩
                  go_wp2_with fail
                  obtain ⟨q0, q1, q2, q3⟩ := blk_cells4 HKZ.out
                  have hbz := HBZ.out
                  unfold set4W at q0 q1 q2 q3 hbz
                  refine bodyPost_ret (v := .tuple #[.agg #[.int .i64 0, .int .i64 0, .int .i64 a, .string ⟨#[]⟩], .int .i64 0, .bool false]) (by simp [results, Tryd.results25, go_sem, q0, q1, q2, q3]) rfl ?_
                  exact oneAns_no HE2.out hbz ⟨0, 0, a, ⟨#[]⟩⟩ 0 rfl
                · have HN := Lib.hid (show tot0 = numAt (j + 1 - a) (n * 10 - (dg : Int)) (s.data.toList.drop (j + 1)) by rw [HT.out, HDR.out, numAt_next HBB.out (by rw [HDG.out, htd]; exact hov), HDG.out, show j - a + 1 = j + 1 - a by omega])
                  have z3 : IntKind.i64.wrap (n * 10) = n * 10 := by have h1 := HLO.out; have h2 := HHI.out; rw [IntKind.wrap_i64]; omega
                  have z4 : IntKind.i64.wrap (n * 10 - (dg : Int)) = n * 10 - (dg : Int) := by have h1 := HLO.out; have h2 := HHI.out; rw [IntKind.wrap_i64]; omega
                  have HLO2 := Lib.hid (show -9223372036854775808 ≤ n * 10 - (dg : Int) by omega)
                  have HHI2 := Lib.hid (show n * 10 - (dg : Int) ≤ 0 by have h2 := HHI.out; omega)
                  have hov2 : td ≤ n := by omega
                  clear htd1 htd2 htd3 hdg hd1 hd2 HT HLO HHI hov
                  go_wp2_with fail
                  (with_reducible refine HC.out.mono ?_); rintro e w' ⟨rfl, rfl⟩
                  go_wp2_with fail
                  go_roundg g
                  case measure => omega
                  case rel => exact ⟨j + 1, n * 10 - (dg : Int), by omega, by go_num, rfl, rfl, HN, by omega, HLO2, HHI2⟩
        case rest =>
          obtain ⟨j, n, rfl, rfl, rfl, HS, haj, HLO, HHI⟩ := hcut
          clear HT0
          cases below with
          | true =>
            have HE2 := Lib.hid (show tot = some (⟨1, n, 0, ⟨#[]⟩⟩, j - a) by rw [HE.out, HNF.out, if_pos rfl, HS.out]; rfl)
            have t1 : (((s[a]'ha).toNat : Int) == 45) = true := t0
            have t2 : (((s[a]'ha).toNat : Int) != 45) = false := by rw [bne, t0]; rfl
            clear t0
            have HO1 := Lib.hid (HST2.out.put0 1)
            have HO2 := Lib.hid (HO1.out.put1 (n))
            obtain ⟨g0, g1, g2, g3⟩ := HST2.out.fr8
            obtain ⟨e0, e1, e2, e3⟩ := HST2.out.cells
            go_upto_region 19 with fail
            generalize ((wc.setCell ⟨b8, 0, none⟩ (.int .i64 1)).setCell ⟨b8, 1, none⟩ (.int .i64 (n))) = W3 at *
            obtain ⟨c0, c1, c2, c3⟩ := HO2.out.cells
            obtain ⟨f0, f1, f2, f3⟩ := HO2.out.fr4
            obtain ⟨d0', d1, d2, d3⟩ := HO2.out.cells4
            obtain ⟨hbz, hkz⟩ := HO2.out.told (.int .i64 1) (.int .i64 (n)) (.int .i64 a) (.string ⟨#[]⟩)
            have HBZ := Lib.hid hbz; have HKZ := Lib.hid hkz
            clear hbz hkz g0 g1 g2 g3 e0 e1 e2 e3
            go_wp2_with fail
            obtain ⟨q0, q1, q2, q3⟩ := blk_cells4 HKZ.out
            have hbz := HBZ.out
            unfold set4W at q0 q1 q2 q3 hbz
            refine bodyPost_ret (v := .tuple #[.agg #[.int .i64 1, .int .i64 (n), .int .i64 a, .string ⟨#[]⟩], .int .i64 j, .bool true]) (by simp [results, Tryd.results25, go_sem, q0, q1, q2, q3]) rfl ?_
            exact oneAns_yes HE2.out hbz (by rw [show a + (j - a) = j by omega])
          | false =>
            have t1 : (((s[a]'ha).toNat : Int) == 45) = false := t0
            have t2 : (((s[a]'ha).toNat : Int) != 45) = true := by rw [bne, t0]; rfl
            clear t0
            by_cases hmin : n = -9223372036854775808
            · have HE2 := Lib.hid (show tot = none by rw [HE.out, HNF.out, if_neg (by simp), HS.out]; simp only; rw [if_pos hmin]; rfl)
              have t9 : (n == -9223372036854775808) = true := by rw [hmin]; rfl
              clear hmin
              obtain ⟨c0, c1, c2, c3⟩ := HST2.out.cells
              obtain ⟨f0, f1, f2, f3⟩ := HST2.out.fr4
              obtain ⟨d0', d1, d2, d3⟩ := HST2.out.cells4
              obtain ⟨hbz, hkz⟩ := HST2.out.told (.int .i64 0) (.int .i64 0) (.int .i64 a) (.string ⟨#[]⟩)
              have HBZ := Lib.hid hbz; have HKZ := Lib.hid hkz
              clear hbz hkz
              go_wp2_with fail
              obtain ⟨q0, q1, q2, q3⟩ := blk_cells4 HKZ.out
              have hbz := HBZ.out
              unfold set4W at q0 q1 q2 q3 hbz
              refine bodyPost_ret (v := .tuple #[.agg #[.int .i64 0, .int .i64 0, .int .i64 a, .string ⟨#[]⟩], .int .i64 0, .bool false]) (by simp [results, Tryd.results25, go_sem, q0, q1, q2, q3]) rfl ?_
              exact oneAns_no HE2.out hbz ⟨0, 0, a, ⟨#[]⟩⟩ 0 rfl
            · have HE2 := Lib.hid (show tot = some (⟨1, -n, 0, ⟨#[]⟩⟩, j - a) by rw [HE.out, HNF.out, if_neg (by simp), HS.out]; simp only; rw [if_neg hmin]; rfl)
              have t9 : (n == -9223372036854775808) = false := by rw [beq_eq_false_iff_ne]; exact hmin
              have t8 : IntKind.i64.wrap (-n) = -n := by have h1 := HLO.out; have h2 := HHI.out; rw [IntKind.wrap_i64]; omega
              clear hmin
              have HO1 := Lib.hid (HST2.out.put0 1)
              have HO2 := Lib.hid (HO1.out.put1 (-n))
              obtain ⟨g0, g1, g2, g3⟩ := HST2.out.fr8
              obtain ⟨e0, e1, e2, e3⟩ := HST2.out.cells
              go_upto_region 19 with fail
              generalize ((wc.setCell ⟨b8, 0, none⟩ (.int .i64 1)).setCell ⟨b8, 1, none⟩ (.int .i64 (-n))) = W3 at *
              obtain ⟨c0, c1, c2, c3⟩ := HO2.out.cells
              obtain ⟨f0, f1, f2, f3⟩ := HO2.out.fr4
              obtain ⟨d0', d1, d2, d3⟩ := HO2.out.cells4
              obtain ⟨hbz, hkz⟩ := HO2.out.told (.int .i64 1) (.int .i64 (-n)) (.int .i64 a) (.string ⟨#[]⟩)
              have HBZ := Lib.hid hbz; have HKZ := Lib.hid hkz
              clear hbz hkz g0 g1 g2 g3 e0 e1 e2 e3
              go_wp2_with fail
              obtain ⟨q0, q1, q2, q3⟩ := blk_cells4 HKZ.out
              have hbz := HBZ.out
              unfold set4W at q0 q1 q2 q3 hbz
              refine bodyPost_ret (v := .tuple #[.agg #[.int .i64 1, .int .i64 (-n), .int .i64 a, .string ⟨#[]⟩], .int .i64 j, .bool true]) (by simp [results, Tryd.results25, go_sem, q0, q1, q2, q3]) rfl ?_
              exact oneAns_yes HE2.out hbz (by rw [show a + (j - a) = j by omega])
    | false =>
      have HF2 := Lib.hid (HF.out.trans (if_neg (by simp)))
      clear HF
      have HSM := Lib.hid (rletter_any (s[a]'ha).toNat wc)
      obtain ⟨sm, hsm⟩ : ∃ d, smallN (s[a]'ha).toNat = d := ⟨_, rfl⟩
      have HSMV := Lib.hid hsm
      rw [hsm] at HSM HF2
      clear hsm
      cases sm with
      | true =>
        have HE := Lib.hid (HF2.out.trans (if_pos rfl))
        clear HF2
        have HL1 := Lib.hid (show (s.data.toList.drop a).drop 1 = s.data.toList.drop (a + 1) by rw [List.drop_drop])
        obtain ⟨L, hL⟩ : ∃ L, s.data.toList.drop a = L := ⟨_, rfl⟩
        rw [hL] at HE HL1
        have HLL := Lib.hid hL
        clear hL
        have HSPL : Hid (spanW L = spanW (L.drop 1) + 1) := Lib.hid (by
          have h1 := drop_byte s.data.toList a (by rw [HRS.out]; exact ha)
          rw [← HLL.out, h1]
          have h2 : withinN (s.data.toList[a]'(by rw [HRS.out]; exact ha)).toNat = true := by
            have h3 : smallN (s.data.toList[a]'(by rw [HRS.out]; exact ha)).toNat = true := HSMV.out
            unfold withinN; rw [h3]; rfl
          rw [spanW_yes h2]; rfl)
        go_wp2_with fail
        (with_reducible refine HSM.out.mono ?_); rintro e w' ⟨rfl, rfl⟩
        clear HSM
        go_upto_block 3 with fail
        go_cut [12] from 91 to 114 (fun x12 wx => ∃ k : Nat, x12 = .int .i64 k ∧ a ≤ k ∧ k ≤ s.size ∧ spanW (L.drop 1) + 1 = k - a ∧ wx = wc)
        case first =>
          go_wp2_with fail
          go_loopg [12] (s.size - a) (fun g x12 wr => ∃ k : Nat, k + g = s.size ∧ x12 = .int .i64 k ∧ a ≤ k ∧ wr = wc ∧ spanW L = (k - a) + spanW (s.data.toList.drop k))
          case atStart => exact ⟨a, by omega, rfl, Nat.le_refl _, rfl, by rw [HLL.out]; omega⟩
          case round =>
            obtain ⟨k, hkg, rfl, hak, rfl, hsp⟩ := hrel
            have HSP := Lib.hid hsp
            clear hsp
            cases gk with
            | zero =>
              have hks : k = s.size := by omega
              have HZ := Lib.hid (show spanW (L.drop 1) + 1 = k - a by rw [← HSPL.out, HSP.out, List.drop_eq_nil_of_le (by rw [HRS.out]; omega), spanW_nil]; rfl)
              have hks2 : (s.size : Int) ≤ k := by omega
              have hks3 : k ≤ s.size := by omega
              clear hks
              go_wp2_with fail
              go_meet
              exact ⟨k, rfl, hak, hks3, HZ.out, rfl⟩
            | succ g =>
              have hlt : k < s.size := by omega
              have HDR := Lib.hid (drop_byte s.data.toList k (by rw [HRS.out]; exact hlt))
              have HGK : Hid (s.data.toList[k]'(by rw [HRS.out]; exact hlt) = s[k]) := Lib.hid rfl
              rw [HGK.out] at HDR
              have HA := Lib.hid (rletter_any (s[k].toNat) wr)
              have HC := Lib.hid (rdigit_any (s[k].toNat) wr)
              have HWN : Hid (withinN s[k].toNat = (smallN s[k].toNat || digitN s[k].toNat || decide (s[k].toNat = 95))) := Lib.hid rfl
              obtain ⟨x1, hx1⟩ : ∃ b, smallN (s[k]).toNat = b := ⟨_, rfl⟩
              obtain ⟨x2, hx2⟩ : ∃ b, digitN (s[k]).toNat = b := ⟨_, rfl⟩
              rw [hx1] at HA HWN
              rw [hx2] at HC HWN
              clear hx1 hx2
              cases x1 with
              | true =>
                have HWV := Lib.hid (HWN.out.trans (show (true || x2 || decide (s[k].toNat = 95)) = true by simp))
                have HZ := Lib.hid (show spanW L = (k + 1 - a) + spanW (s.data.toList.drop (k + 1)) by rw [HSP.out, HDR.out, spanW_yes HWV.out]; omega)
                go_wp2_with fail
                (with_reducible refine HA.out.mono ?_); rintro e w' ⟨rfl, rfl⟩
                go_wp2_with fail
                go_roundg g
                case measure => omega
                case rel => exact ⟨k + 1, by omega, by go_num, by omega, rfl, HZ.out⟩
              | false =>
                cases x2 with
                | true =>
                  have HWV := Lib.hid (HWN.out.trans (show (false || true || decide (s[k].toNat = 95)) = true by simp))
                  have HZ := Lib.hid (show spanW L = (k + 1 - a) + spanW (s.data.toList.drop (k + 1)) by rw [HSP.out, HDR.out, spanW_yes HWV.out]; omega)
                  go_wp2_with fail
                  (with_reducible refine HA.out.mono ?_); rintro e w' ⟨rfl, rfl⟩
                  go_wp2_with fail
                  (with_reducible refine HC.out.mono ?_); rintro e w' ⟨rfl, rfl⟩
                  go_wp2_with fail
                  go_roundg g
                  case measure => omega
                  case rel => exact ⟨k + 1, by omega, by go_num, by omega, rfl, HZ.out⟩
                | false =>
                  by_cases h95 : s[k].toNat = 95
                  · have t5 : ((s[k].toNat : Int) == 95) = true := by rw [h95]; rfl
                    have HWV := Lib.hid (HWN.out.trans (show (false || false || decide (s[k].toNat = 95)) = true by simp [h95]))
                    clear h95
                    have HZ := Lib.hid (show spanW L = (k + 1 - a) + spanW (s.data.toList.drop (k + 1)) by rw [HSP.out, HDR.out, spanW_yes HWV.out]; omega)
                    go_wp2_with fail
                    (with_reducible refine HA.out.mono ?_); rintro e w' ⟨rfl, rfl⟩
                    go_wp2_with fail
                    (with_reducible refine HC.out.mono ?_); rintro e w' ⟨rfl, rfl⟩
                    go_wp2_with fail
                    go_roundg g
                    case measure => omega
                    case rel => exact ⟨k + 1, by omega, by go_num, by omega, rfl, HZ.out⟩
                  · have t5 : ((s[k].toNat : Int) == 95) = false := by rw [beq_eq_false_iff_ne]; omega
                    have HWV := Lib.hid (HWN.out.trans (show (false || false || decide (s[k].toNat = 95)) = false by simp [h95]))
                    clear h95
                    have HZ := Lib.hid (show spanW (L.drop 1) + 1 = k - a by rw [← HSPL.out, HSP.out, HDR.out, spanW_no HWV.out]; rfl)
                    go_wp2_with fail
                    (with_reducible refine HA.out.mono ?_); rintro e w' ⟨rfl, rfl⟩
                    go_wp2_with fail
                    (with_reducible refine HC.out.mono ?_); rintro e w' ⟨rfl, rfl⟩
                    go_wp2_with fail
                    go_meet
                    exact ⟨k, rfl, by omega, by omega, HZ.out, rfl⟩
        case rest =>
          obtain ⟨k, rfl, hak, hks, hsp, rfl⟩ := hcut
          obtain ⟨u, hu⟩ : ∃ u, k - a = u := ⟨_, rfl⟩
          have hku : a + u = k := by omega
          have HW : Hid (tot = if u > 24 then none else some (⟨2, 0, 0, (⟨L.toArray⟩ : ByteArray).extract 0 u⟩, u)) := Lib.hid (by
            rw [HE.out]; unfold wordT
            rw [show (⟨L.toArray⟩ : ByteArray).data.toList.drop 1 = L.drop 1 by simp, hsp, hu])
          have HXT : Hid ((⟨L.toArray⟩ : ByteArray).extract 0 u = s.extract a k) := Lib.hid (by
            rw [HLL.out.symm]
            apply ByteArray.ext
            apply Array.toList_inj.1
            simp [ByteArray.data_extract, List.extract_eq_take_drop]
            rw [← hku]; simp)
          rw [HXT.out] at HW
          clear HXT hsp hu
          have hki : (k : Int) - a = u := by omega
          have i1 : (0 : Int) ≤ a := by omega
          have i2 : (a : Int) ≤ k := by omega
          have i3 : (k : Int) ≤ s.size := by omega
          clear HSPL HL1 HE
          by_cases hu24 : u > 24
          · have HE2 := Lib.hid (show tot = none by rw [HW.out, if_pos hu24])
            have hui : (24 : Int) < u := by omega
            have HO1 := Lib.hid (HST2.out.put0 2)
            have HO2 := Lib.hid (HO1.out.put3 (s.extract a k))
            obtain ⟨g0, g1, g2, g3⟩ := HST2.out.fr8
            obtain ⟨e0, e1, e2, e3⟩ := HST2.out.cells
            go_upto_region 24 with fail
            go_region
            go_upto_region 25 with fail
            generalize ((wc.setCell ⟨b8, 0, none⟩ (.int .i64 2)).setCell ⟨b8, 3, none⟩ (.string (s.extract a k))) = W3 at *
            obtain ⟨c0, c1, c2, c3⟩ := HO2.out.cells
            obtain ⟨f0, f1, f2, f3⟩ := HO2.out.fr4
            obtain ⟨d0', d1, d2, d3⟩ := HO2.out.cells4
            obtain ⟨hbz, hkz⟩ := HO2.out.told (.int .i64 2) (.int .i64 0) (.int .i64 a) (.string (s.extract a k))
            have HBZ := Lib.hid hbz; have HKZ := Lib.hid hkz
            clear hbz hkz g0 g1 g2 g3 e0 e1 e2 e3
            go_wp2_with fail
            obtain ⟨q0, q1, q2, q3⟩ := blk_cells4 HKZ.out
            have hbz := HBZ.out
            unfold set4W at q0 q1 q2 q3 hbz
            refine bodyPost_ret (v := .tuple #[.agg #[.int .i64 2, .int .i64 0, .int .i64 a, .string (s.extract a k)], .int .i64 k, .bool false]) (by simp [results, Tryd.results25, go_sem, q0, q1, q2, q3, hui]) rfl ?_
            exact oneAns_no HE2.out hbz.drew ⟨2, 0, a, s.extract a k⟩ k rfl
          · have HE2 := Lib.hid (show tot = some (⟨2, 0, 0, s.extract a k⟩, u) by rw [HW.out, if_neg hu24])
            have hui : (u : Int) ≤ 24 := by omega
            have HO1 := Lib.hid (HST2.out.put0 2)
            have HO2 := Lib.hid (HO1.out.put3 (s.extract a k))
            obtain ⟨g0, g1, g2, g3⟩ := HST2.out.fr8
            obtain ⟨e0, e1, e2, e3⟩ := HST2.out.cells
            go_upto_region 24 with fail
            go_region
            go_upto_region 25 with fail
            generalize ((wc.setCell ⟨b8, 0, none⟩ (.int .i64 2)).setCell ⟨b8, 3, none⟩ (.string (s.extract a k))) = W3 at *
            obtain ⟨c0, c1, c2, c3⟩ := HO2.out.cells
            obtain ⟨f0, f1, f2, f3⟩ := HO2.out.fr4
            obtain ⟨d0', d1, d2, d3⟩ := HO2.out.cells4
            obtain ⟨hbz, hkz⟩ := HO2.out.told (.int .i64 2) (.int .i64 0) (.int .i64 a) (.string (s.extract a k))
            have HBZ := Lib.hid hbz; have HKZ := Lib.hid hkz
            clear hbz hkz g0 g1 g2 g3 e0 e1 e2 e3
            go_wp2_with fail
            obtain ⟨q0, q1, q2, q3⟩ := blk_cells4 HKZ.out
            have hbz := HBZ.out
            unfold set4W at q0 q1 q2 q3 hbz
            refine bodyPost_ret (v := .tuple #[.agg #[.int .i64 2, .int .i64 0, .int .i64 a, .string (s.extract a k)], .int .i64 k, .bool true]) (by simp [results, Tryd.results25, go_sem, q0, q1, q2, q3]) rfl ?_
            exact oneAns_yes HE2.out hbz.drew (by rw [hku])
      | false =>
        have HF3 := Lib.hid (HF2.out.trans (if_neg (by simp)))
        clear HF2
        by_cases h34 : (s[a]'ha).toNat = 34
        · have HE := Lib.hid (HF3.out.trans (if_pos (by rw [h34]; rfl)))
          clear HF3
          have t1 : (((s[a]'ha).toNat : Int) == 34) = true := by rw [h34]; rfl
          obtain ⟨i0, hi0, hz0, hz1, hz2⟩ := info_parts Tryd.infoU8x
          obtain ⟨r, hr⟩ : ∃ r, s.data.toList = r := ⟨_, rfl⟩
          have HRL := Lib.hid (show r.length = s.size by rw [← hr]; simp)
          rw [hr] at HE
          have HR := Lib.hid hr
          obtain ⟨t0, ht0⟩ : ∃ t, unq (r.drop (a + 1)) [] = t := ⟨_, rfl⟩
          have HTOT : Hid (tot = t0.map fun p => ((⟨3, 0, 0, ⟨p.1.toArray⟩⟩ : Tok), (r.drop a).length - p.2.length)) := Lib.hid (by rw [HE.out, ← ht0]; unfold quotedT; rw [List.drop_drop])
          have HU := Lib.hid ht0.symm
          obtain ⟨bq, hbq⟩ : ∃ b, wc.heap.size = b := ⟨_, rfl⟩
          have hb4q : b4 < bq := by rw [← hbq]; exact HST2.out.k4.lt
          have hb8q : b8 < bq := by rw [← hbq]; exact HST2.out.k8.lt
          have hbqw : w.heap.size ≤ bq := by rw [← hbq]; exact HST2.out.bel.size
          have hbq0 : bq ≤ wc.heap.size := by omega
          clear ht0 hr h34 hbq HE
          go_wp2_with fail
          (with_reducible refine HSM.out.mono ?_); rintro e w' ⟨rfl, rfl⟩
          clear HSM HSMV
          go_wp2_with fail
          go_loopg [13, 14] (s.size - (a + 1)) (fun g x13 x14 wr => ∃ (k : Nat) (acc : List UInt8) (A : Option Addr) (c : Nat), k + g = s.size ∧ x14 = .int .i64 k ∧ x13 = .slice A acc.length c ∧ wr.ownsRow bq 5 1 (.slice A acc.length c) acc.length (Lib.byteCells acc) ∧ OneAt w b4 b8 0 0 a ⟨#[]⟩ wr ∧ bq ≤ wr.heap.size ∧ acc.length ≤ k ∧ t0 = unq (r.drop k) acc ∧ a + 1 ≤ k)
          case atStart => exact ⟨a + 1, [], none, 0, by omega, by go_num, rfl, own_nil _ _ _ _, HST2.out, hbq0, by simp, HU.out, Nat.le_refl _⟩
          case round =>
            obtain ⟨k, acc, A, c, hkg, rfl, rfl, hown, hone, hbqr, hac, htk, hak⟩ := hrel
            have HO := Lib.hid hown; have HN1 := Lib.hid hone; have HT := Lib.hid htk
            clear hown hone htk HU HST2 hbq0
            cases gk with
            | zero =>
              have hkz : s.size ≤ k := by omega
              have HE2 : Hid (tot = none) := Lib.hid (by rw [HTOT.out, HT.out, unq_over (by rw [HRL.out]; exact hkz)]; rfl)
              have hkz2 : (s.size : Int) ≤ k := by omega
              clear HT hkz
              obtain ⟨c0, c1, c2, c3⟩ := HN1.out.cells
              obtain ⟨f0, f1, f2, f3⟩ := HN1.out.fr4
              obtain ⟨d0', d1, d2, d3⟩ := HN1.out.cells4
              obtain ⟨hbz, hkz⟩ := HN1.out.told (.int .i64 0) (.int .i64 0) (.int .i64 a) (.string ⟨#[]⟩)
              have HBZ := Lib.hid hbz; have HKZ := Lib.hid hkz
              clear hbz hkz
              go_wp2_with fail
              obtain ⟨q0, q1, q2, q3⟩ := blk_cells4 HKZ.out
              have hbz := HBZ.out
              unfold set4W at q0 q1 q2 q3 hbz
              refine bodyPost_ret (v := .tuple #[.agg #[.int .i64 0, .int .i64 0, .int .i64 a, .string ⟨#[]⟩], .int .i64 0, .bool false]) (by simp [results, Tryd.results25, go_sem, q0, q1, q2, q3]) rfl ?_
              exact oneAns_no HE2.out hbz ⟨0, 0, a, ⟨#[]⟩⟩ 0 rfl
            | succ g =>
              have hlt : k < s.size := by omega
              have hklr : k < r.length := by rw [HRL.out]; exact hlt
              have HG : Hid (s[k] = r[k]) := Lib.hid (by have := HR.out; subst this; rfl)
              by_cases h34 : r[k] = 34
              · have t2 : ((s[k].toNat : Int) == 34) = true := by rw [HG.out, h34]; rfl
                by_cases ha24 : acc.length ≤ 24
                · have HE2 : Hid (tot = some (⟨3, 0, 0, ⟨acc.toArray⟩⟩, k + 1 - a)) := Lib.hid (by
                    rw [HTOT.out, HT.out, unq_end hklr ha24 h34]
                    show some ((⟨3, 0, 0, ⟨acc.toArray⟩⟩ : Tok), (r.drop a).length - (r.drop (k + 1)).length) = some (⟨3, 0, 0, ⟨acc.toArray⟩⟩, k + 1 - a)
                    rw [List.length_drop, List.length_drop, show r.length - a - (r.length - (k + 1)) = k + 1 - a by omega])
                  have hai : (acc.length : Int) ≤ 24 := by omega
                  clear h34 HT ha24
                  have HO1 := Lib.hid (HN1.out.put0 3)
                  have HO2 := Lib.hid (HO1.out.put3 ⟨acc.toArray⟩)
                  have HC0 := conv_own wr.drew HO.out rfl
                  have hoz := (own_grown HO.out (only_setCell (World.grownBy.refl wr (some b8)) (p := ⟨b8, 0, none⟩) (.inl rfl) (.int .i64 3)) (fun g hg e => by injection e with e; have := (HO.out.lt g hg).1; omega))
                  have HC1 := conv_own (wr.setCell ⟨b8, 0, none⟩ (.int .i64 3)).drew hoz rfl
                  clear hoz
                  obtain ⟨g0, g1, g2, g3⟩ := HN1.out.fr8
                  obtain ⟨e0, e1, e2, e3⟩ := HN1.out.cells
                  go_upto_region 32 with fail
                  go_region
                  go_upto_region 33 with fail
                  generalize ((wr.setCell ⟨b8, 0, none⟩ (.int .i64 3)).setCell ⟨b8, 3, none⟩ (.string ⟨acc.toArray⟩)) = W3 at *
                  obtain ⟨c0, c1, c2, c3⟩ := HO2.out.cells
                  obtain ⟨f0, f1, f2, f3⟩ := HO2.out.fr4
                  obtain ⟨d0', d1, d2, d3⟩ := HO2.out.cells4
                  obtain ⟨hbz, hkz⟩ := HO2.out.told (.int .i64 3) (.int .i64 0) (.int .i64 a) (.string ⟨acc.toArray⟩)
                  have HBZ := Lib.hid hbz; have HKZ := Lib.hid hkz
                  clear hbz hkz g0 g1 g2 g3 e0 e1 e2 e3 HC0 HC1
                  go_wp2_with fail
                  obtain ⟨q0, q1, q2, q3⟩ := blk_cells4 HKZ.out
                  have hbz := HBZ.out
                  unfold set4W at q0 q1 q2 q3 hbz
                  refine bodyPost_ret (v := .tuple #[.agg #[.int .i64 3, .int .i64 0, .int .i64 a, .string ⟨acc.toArray⟩], .int .i64 ((k + 1 : Nat) : Int), .bool true]) (by simp [results, Tryd.results25, go_sem, q0, q1, q2, q3]) rfl ?_
                  exact oneAns_yes HE2.out hbz.drew (by rw [show a + (k + 1 - a) = k + 1 by omega])
                · have HE2 : Hid (tot = none) := Lib.hid (by rw [HTOT.out, HT.out, unq_long (by omega)]; rfl)
                  have hai : (24 : Int) < acc.length := by omega
                  clear h34 HT
                  have HO1 := Lib.hid (HN1.out.put0 3)
                  have HO2 := Lib.hid (HO1.out.put3 ⟨acc.toArray⟩)
                  have HC0 := conv_own wr.drew HO.out rfl
                  have hoz := (own_grown HO.out (only_setCell (World.grownBy.refl wr (some b8)) (p := ⟨b8, 0, none⟩) (.inl rfl) (.int .i64 3)) (fun g hg e => by injection e with e; have := (HO.out.lt g hg).1; omega))
                  have HC1 := conv_own (wr.setCell ⟨b8, 0, none⟩ (.int .i64 3)).drew hoz rfl
                  clear hoz
                  obtain ⟨g0, g1, g2, g3⟩ := HN1.out.fr8
                  obtain ⟨e0, e1, e2, e3⟩ := HN1.out.cells
                  go_upto_region 32 with fail
                  go_region
                  go_upto_region 33 with fail
                  generalize ((wr.setCell ⟨b8, 0, none⟩ (.int .i64 3)).setCell ⟨b8, 3, none⟩ (.string ⟨acc.toArray⟩)) = W3 at *
                  obtain ⟨c0, c1, c2, c3⟩ := HO2.out.cells
                  obtain ⟨f0, f1, f2, f3⟩ := HO2.out.fr4
                  obtain ⟨d0', d1, d2, d3⟩ := HO2.out.cells4
                  obtain ⟨hbz, hkz⟩ := HO2.out.told (.int .i64 3) (.int .i64 0) (.int .i64 a) (.string ⟨acc.toArray⟩)
                  have HBZ := Lib.hid hbz; have HKZ := Lib.hid hkz
                  clear hbz hkz g0 g1 g2 g3 e0 e1 e2 e3 HC0 HC1
                  go_wp2_with fail
                  obtain ⟨q0, q1, q2, q3⟩ := blk_cells4 HKZ.out
                  have hbz := HBZ.out
                  unfold set4W at q0 q1 q2 q3 hbz
                  refine bodyPost_ret (v := .tuple #[.agg #[.int .i64 3, .int .i64 0, .int .i64 a, .string ⟨acc.toArray⟩], .int .i64 ((k + 1 : Nat) : Int), .bool false]) (by simp [results, Tryd.results25, go_sem, q0, q1, q2, q3, hai]) rfl ?_
                  exact oneAns_no HE2.out hbz.drew ⟨3, 0, a, ⟨acc.toArray⟩⟩ _ rfl
              · have t2 : ((s[k].toNat : Int) == 34) = false := by
                  rw [HG.out, beq_eq_false_iff_ne]
                  intro e
                  exact h34 (UInt8.toNat_inj.1 (by have h : r[k].toNat = 34 := (by omega); rw [h]; rfl))
                by_cases h92 : r[k] = 92
                · have t3 : ((s[k].toNat : Int) == 92) = true := by rw [HG.out, h92]; rfl
                  obtain ⟨j, hjk⟩ : ∃ j, j = k + 1 := ⟨_, rfl⟩
                  have hj : (k : Int) + 1 = j := by omega
                  have HJ := Lib.hid hjk
                  by_cases hl : k + 1 = r.length
                  · have HE2 : Hid (tot = none) := Lib.hid (by
                      rw [HTOT.out, HT.out]
                      by_cases ha24 : acc.length ≤ 24
                      · rw [unq_last hl ha24 h92]; rfl
                      · rw [unq_long (by omega)]; rfl)
                    have t4 : ((j : Int) == s.size) = true := by rw [beq_iff_eq]; have := HRL.out; omega
                    clear HT h34 h92 hl hjk
                    obtain ⟨c0, c1, c2, c3⟩ := HN1.out.cells
                    obtain ⟨f0, f1, f2, f3⟩ := HN1.out.fr4
                    obtain ⟨d0', d1, d2, d3⟩ := HN1.out.cells4
                    obtain ⟨hbz, hkz⟩ := HN1.out.told (.int .i64 0) (.int .i64 0) (.int .i64 a) (.string ⟨#[]⟩)
                    have HBZ := Lib.hid hbz; have HKZ := Lib.hid hkz
                    clear hbz hkz
                    go_wp2_with fail
                    obtain ⟨q0, q1, q2, q3⟩ := blk_cells4 HKZ.out
                    have hbz := HBZ.out
                    unfold set4W at q0 q1 q2 q3 hbz
                    refine bodyPost_ret (v := .tuple #[.agg #[.int .i64 0, .int .i64 0, .int .i64 a, .string ⟨#[]⟩], .int .i64 0, .bool false]) (by simp [results, Tryd.results25, go_sem, q0, q1, q2, q3]) rfl ?_
                    exact oneAns_no HE2.out hbz ⟨0, 0, a, ⟨#[]⟩⟩ 0 rfl
                  · have hk1 : k + 1 < r.length := by omega
                    have hjR : j < s.size := by have := HRL.out; omega
                    have t4 : ((j : Int) == s.size) = false := by rw [beq_eq_false_iff_ne]; omega
                    have HGJ : Hid (s[j] = r[k + 1]) := Lib.hid (by subst hjk; have := HR.out; subst this; rfl)
                    by_cases hq : s[j].toNat = 34 ∨ s[j].toNat = 92
                    · have HQ : Hid (escB r[k + 1] = true) := Lib.hid (by rw [← HGJ.out]; unfold escB escN; rcases hq with h | h <;> simp [h])
                      have HT2 : Hid (t0 = unq (r.drop (k + 2)) (acc ++ [s[j]])) := Lib.hid (by
                        rw [HT.out]
                        by_cases ha24 : acc.length ≤ 24
                        · rw [HGJ.out]; exact unq_esc hk1 ha24 h92 HQ.out
                        · exact unq_grow ha24)
                      have hj2 : (j : Int) + 1 = ((k + 2 : Nat) : Int) := by have := HJ.out; omega
                      have HJ2 := Lib.hid hj2
                      clear HT h34 h92 hl HQ HGJ hj2 hjk
                      rcases hq with h | h
                      · have t5 : ((s[j].toNat : Int) != 34) = false := by rw [h]; rfl
                        have t6 : ((s[j].toNat : Int) == 34) = true := by rw [h]; rfl
                        clear h
                        have HX := Lib.hid (show Sees (wr.alloc (.cells #[.int .u8 (s[j].toNat : Int)] 5)) (wr.alloc (.cells #[.int .u8 (s[j].toNat : Int)] 5)).heap.size 1 (some ⟨wr.heap.size, 0, none⟩) 1 (Lib.byteCells [s[j]]) from (Blk.mk (heap_alloc_new wr _) : Blk _ wr.heap.size 5 [.int .u8 (s[j].toNat : Int)]).sees rfl (List.prefix_refl _))
                        have HOA := Lib.hid (HO.out.alloc (.cells #[.int .u8 (s[j].toNat : Int)] 5))
                        have HBA := Lib.hid (HN1.out.alloc (.cells #[.int .u8 (s[j].toNat : Int)] 5))
                        have hbv : ∀ g, (Value.slice A acc.length c).ownBlock = some g → bq ≤ g := fun g hg => (HO.out.lt g hg).1
                        have HBV := Lib.hid hbv
                        have hbl : bq ≤ (wr.alloc (.cells #[.int .u8 (s[j].toNat : Int)] 5)).heap.size := by simp; omega
                        clear HO hbv
                        go_wp2_with (at_builtin; refine wpList_append_at rfl (.tmp 175) (.tmp 179) 41 rfl bq 5 i0 (.int .u8 0) 1 1 Tryd.underlying41 hi0 hz0 hz1 hz2 rfl (by decide) _ acc.length (Lib.byteCells acc) rfl HOA.out _ _ 1 1 (Lib.byteCells [s[j]]) rfl HX.out (byteCells_one' _) (by unfold maxLen; omega) (by omega) hbl ?_)
                        intro v3 w3 hown3 hgr3 hwh3
                        obtain ⟨A3, c3, rfl, hc3, hc4⟩ := own_slice hown3
                        rw [← Lib.byteCells_append] at hown3
                        have HO3 := Lib.hid hown3
                        have HN3 : Hid (OneAt w b4 b8 0 0 a ⟨#[]⟩ w3) := Lib.hid ⟨HBA.out.k4.grown hgr3 (fun e => by have := HBV.out b4 e.symm; omega), HBA.out.k8.grown hgr3 (fun e => by have := HBV.out b8 e.symm; omega), HBA.out.bel.grown hgr3 HBA.out.bel.size (fun g hg => by have := HBV.out g hg; omega), HBA.out.le4, HBA.out.le8, HBA.out.ne⟩
                        have hbq3 : bq ≤ w3.heap.size := Nat.le_trans hbl hgr3.size
                        clear hown3 hgr3 hwh3 HOA HX HBA HBV hbl
                        go_wp2_with fail
                        go_roundg (g - 1)
                        case measure => omega
                        case rel => exact ⟨k + 2, acc ++ [s[j]], A3, c3, by omega, (by rw [HJ2.out]), by rw [List.length_append, List.length_singleton], by rw [List.length_append, List.length_singleton]; exact HO3.out, HN3.out, hbq3, by rw [List.length_append, List.length_singleton]; omega, HT2.out, by omega⟩
                      · have t5 : ((s[j].toNat : Int) != 34) = true := by rw [h]; rfl
                        have t6 : ((s[j].toNat : Int) == 34) = false := by rw [h]; rfl
                        have t7 : ((s[j].toNat : Int) != 92) = false := by rw [h]; rfl
                        have t8 : ((s[j].toNat : Int) == 92) = true := by rw [h]; rfl
                        clear h
                        have HX := Lib.hid (show Sees (wr.alloc (.cells #[.int .u8 (s[j].toNat : Int)] 5)) (wr.alloc (.cells #[.int .u8 (s[j].toNat : Int)] 5)).heap.size 1 (some ⟨wr.heap.size, 0, none⟩) 1 (Lib.byteCells [s[j]]) from (Blk.mk (heap_alloc_new wr _) : Blk _ wr.heap.size 5 [.int .u8 (s[j].toNat : Int)]).sees rfl (List.prefix_refl _))
                        have HOA := Lib.hid (HO.out.alloc (.cells #[.int .u8 (s[j].toNat : Int)] 5))
                        have HBA := Lib.hid (HN1.out.alloc (.cells #[.int .u8 (s[j].toNat : Int)] 5))
                        have hbv : ∀ g, (Value.slice A acc.length c).ownBlock = some g → bq ≤ g := fun g hg => (HO.out.lt g hg).1
                        have HBV := Lib.hid hbv
                        have hbl : bq ≤ (wr.alloc (.cells #[.int .u8 (s[j].toNat : Int)] 5)).heap.size := by simp; omega
                        clear HO hbv
                        go_wp2_with (at_builtin; refine wpList_append_at rfl (.tmp 175) (.tmp 179) 41 rfl bq 5 i0 (.int .u8 0) 1 1 Tryd.underlying41 hi0 hz0 hz1 hz2 rfl (by decide) _ acc.length (Lib.byteCells acc) rfl HOA.out _ _ 1 1 (Lib.byteCells [s[j]]) rfl HX.out (byteCells_one' _) (by unfold maxLen; omega) (by omega) hbl ?_)
                        intro v3 w3 hown3 hgr3 hwh3
                        obtain ⟨A3, c3, rfl, hc3, hc4⟩ := own_slice hown3
                        rw [← Lib.byteCells_append] at hown3
                        have HO3 := Lib.hid hown3
                        have HN3 : Hid (OneAt w b4 b8 0 0 a ⟨#[]⟩ w3) := Lib.hid ⟨HBA.out.k4.grown hgr3 (fun e => by have := HBV.out b4 e.symm; omega), HBA.out.k8.grown hgr3 (fun e => by have := HBV.out b8 e.symm; omega), HBA.out.bel.grown hgr3 HBA.out.bel.size (fun g hg => by have := HBV.out g hg; omega), HBA.out.le4, HBA.out.le8, HBA.out.ne⟩
                        have hbq3 : bq ≤ w3.heap.size := Nat.le_trans hbl hgr3.size
                        clear hown3 hgr3 hwh3 HOA HX HBA HBV hbl
                        go_wp2_with fail
                        go_roundg (g - 1)
                        case measure => omega
                        case rel => exact ⟨k + 2, acc ++ [s[j]], A3, c3, by omega, (by rw [HJ2.out]), by rw [List.length_append, List.length_singleton], by rw [List.length_append, List.length_singleton]; exact HO3.out, HN3.out, hbq3, by rw [List.length_append, List.length_singleton]; omega, HT2.out, by omega⟩
                    · have HQ : Hid (escB r[k + 1] = false) := Lib.hid (by rw [← HGJ.out]; unfold escB escN; simp; omega)
                      have HE2 : Hid (tot = none) := Lib.hid (by
                        rw [HTOT.out, HT.out]
                        by_cases ha24 : acc.length ≤ 24
                        · rw [unq_bad hk1 ha24 h92 HQ.out]; rfl
                        · rw [unq_long (by omega)]; rfl)
                      have t6 : ((s[j].toNat : Int) == 34) = false := by rw [beq_eq_false_iff_ne]; omega
                      have t8 : ((s[j].toNat : Int) == 92) = false := by rw [beq_eq_false_iff_ne]; omega
                      have t5 : ((s[j].toNat : Int) != 34) = true := by rw [bne, t6]; rfl
                      have t7 : ((s[j].toNat : Int) != 92) = true := by rw [bne, t8]; rfl
                      clear HT h34 h92 hl hq hjk
                      obtain ⟨c0, c1, c2, c3⟩ := HN1.out.cells
                      obtain ⟨f0, f1, f2, f3⟩ := HN1.out.fr4
                      obtain ⟨d0', d1, d2, d3⟩ := HN1.out.cells4
                      obtain ⟨hbz, hkz⟩ := HN1.out.told (.int .i64 0) (.int .i64 0) (.int .i64 a) (.string ⟨#[]⟩)
                      have HBZ := Lib.hid hbz; have HKZ := Lib.hid hkz
                      clear hbz hkz
                      go_wp2_with fail
                      obtain ⟨q0, q1, q2, q3⟩ := blk_cells4 HKZ.out
                      have hbz := HBZ.out
                      unfold set4W at q0 q1 q2 q3 hbz
                      refine bodyPost_ret (v := .tuple #[.agg #[.int .i64 0, .int .i64 0, .int .i64 a, .string ⟨#[]⟩], .int .i64 0, .bool false]) (by simp [results, Tryd.results25, go_sem, q0, q1, q2, q3]) rfl ?_
                      exact oneAns_no HE2.out hbz ⟨0, 0, a, ⟨#[]⟩⟩ 0 rfl
                · have t3 : ((s[k].toNat : Int) == 92) = false := by
                    rw [HG.out, beq_eq_false_iff_ne]
                    intro e
                    exact h92 (UInt8.toNat_inj.1 (by have h : r[k].toNat = 92 := (by omega); rw [h]; rfl))
                  have HT2 : Hid (t0 = unq (r.drop (k + 1)) (acc ++ [s[k]])) := Lib.hid (by
                    rw [HT.out]
                    by_cases ha24 : acc.length ≤ 24
                    · rw [HG.out]; exact unq_step hklr ha24 h34 h92
                    · exact unq_grow ha24)
                  clear HT h34 h92
                  have HX := Lib.hid (show Sees (wr.alloc (.cells #[.int .u8 (s[k].toNat : Int)] 5)) (wr.alloc (.cells #[.int .u8 (s[k].toNat : Int)] 5)).heap.size 1 (some ⟨wr.heap.size, 0, none⟩) 1 (Lib.byteCells [s[k]]) from (Blk.mk (heap_alloc_new wr _) : Blk _ wr.heap.size 5 [.int .u8 (s[k].toNat : Int)]).sees rfl (List.prefix_refl _))
                  have HOA := Lib.hid (HO.out.alloc (.cells #[.int .u8 (s[k].toNat : Int)] 5))
                  have HBA := Lib.hid (HN1.out.alloc (.cells #[.int .u8 (s[k].toNat : Int)] 5))
                  have hbv : ∀ g, (Value.slice A acc.length c).ownBlock = some g → bq ≤ g := fun g hg => (HO.out.lt g hg).1
                  have HBV := Lib.hid hbv
                  have hbl : bq ≤ (wr.alloc (.cells #[.int .u8 (s[k].toNat : Int)] 5)).heap.size := by simp; omega
                  clear HO hbv
                  go_wp2_with (at_builtin; refine wpList_append_at rfl (.tmp 175) (.tmp 179) 41 rfl bq 5 i0 (.int .u8 0) 1 1 Tryd.underlying41 hi0 hz0 hz1 hz2 rfl (by decide) _ acc.length (Lib.byteCells acc) rfl HOA.out _ _ 1 1 (Lib.byteCells [s[k]]) rfl HX.out (byteCells_one' _) (by unfold maxLen; omega) (by omega) hbl ?_)
                  intro v3 w3 hown3 hgr3 hwh3
                  obtain ⟨A3, c3, rfl, hc3, hc4⟩ := own_slice hown3
                  rw [← Lib.byteCells_append] at hown3
                  have HO3 := Lib.hid hown3
                  have HN3 : Hid (OneAt w b4 b8 0 0 a ⟨#[]⟩ w3) := Lib.hid ⟨HBA.out.k4.grown hgr3 (fun e => by have := HBV.out b4 e.symm; omega), HBA.out.k8.grown hgr3 (fun e => by have := HBV.out b8 e.symm; omega), HBA.out.bel.grown hgr3 HBA.out.bel.size (fun g hg => by have := HBV.out g hg; omega), HBA.out.le4, HBA.out.le8, HBA.out.ne⟩
                  have hbq3 : bq ≤ w3.heap.size := Nat.le_trans hbl hgr3.size
                  clear hown3 hgr3 hwh3 HOA HX HBA HBV hbl
                  go_wp2_with fail
                  go_roundg (g)
                  case measure => omega
                  case rel => exact ⟨k + 1, acc ++ [s[k]], A3, c3, by omega, by go_num, by rw [List.length_append, List.length_singleton], by rw [List.length_append, List.length_singleton]; exact HO3.out, HN3.out, hbq3, by rw [List.length_append, List.length_singleton]; omega, HT2.out, by omega⟩
        · have HTOT := Lib.hid (show tot = signIn (s.data.toList.drop a) (signsL.drop 0) from HF3.out.trans (if_neg (by rw [beq_eq_false_iff_ne.2 h34]; simp)))
          have t1 : (((s[a]'ha).toNat : Int) == 34) = false := by rw [beq_eq_false_iff_ne]; omega
          clear HF3 h34
          go_wp2_with fail
          (with_reducible refine HSM.out.mono ?_); rintro e w' ⟨rfl, rfl⟩
          go_wp2_with fail
          (with_reducible refine (rsigns_any _).mono ?_); rintro e w2 ⟨rfl, hw2⟩
          have HS0 := Lib.hid (show Blk w2 wc.heap.size 9 (txs1 signsL) by rw [← hw2]; exact Blk.mk (heap_alloc_new wc _))
          have hb12 : Below wc.heap.size wc w2 := by rw [← hw2]; exact (Below.refl _ _).alloc (Nat.le_refl _) _
          have HST := Lib.hid (HST2.out.below hb12)
          obtain ⟨bs, hbs⟩ : ∃ b, wc.heap.size = b := ⟨_, rfl⟩
          rw [hbs] at HS0
          have HBS := Lib.hid hbs
          have hbs8 : bs ≠ b8 := by have := HST2.out.k8.lt; omega
          have hbs4 : bs ≠ b4 := by have := HST2.out.k4.lt; omega
          clear hw2 hb12 hbs HST2
          rw [show (⟨wc.heap.size, 0, none⟩ : Addr) = ⟨bs, 0, none⟩ by rw [HBS.out]]
          clear HSM
          go_wp2_with fail
          go_loopg [184] 22 (fun g x184 wr => ∃ k : Nat, k + g = 22 ∧ x184 = .int .i64 k ∧ tot = signIn (s.data.toList.drop a) (signsL.drop k) ∧ OneAt w b4 b8 0 0 a ⟨#[]⟩ wr ∧ Blk wr bs 9 (txs1 signsL))
          case atStart => exact ⟨0, by omega, rfl, HTOT.out, HST.out, HS0.out⟩
          case round =>
            obtain ⟨k, hkg, rfl, ht, hone, hsg⟩ := hrel
            have HT := Lib.hid ht; have HO := Lib.hid hone; have HS := Lib.hid hsg
            clear ht hone hsg HTOT HST HS0
            cases gk with
            | zero =>
              have hk22 : (22 : Int) ≤ k := by omega
              have HN := Lib.hid (show tot = none by rw [HT.out, show signsL.drop k = [] from List.drop_eq_nil_of_le (by show 22 ≤ k; omega)]; rfl)
              obtain ⟨c0, c1, c2, c3⟩ := HO.out.cells
              obtain ⟨f0, f1, f2, f3⟩ := HO.out.fr4
              obtain ⟨d0', d1, d2, d3⟩ := HO.out.cells4
              obtain ⟨hbz, hkz⟩ := HO.out.told (.int .i64 0) (.int .i64 0) (.int .i64 a) (.string ⟨#[]⟩)
              have HBZ := Lib.hid hbz; have HKZ := Lib.hid hkz
              clear hbz hkz
              go_wp2_with fail
              obtain ⟨q0, q1, q2, q3⟩ := blk_cells4 HKZ.out
              have hbz := HBZ.out
              unfold set4W at q0 q1 q2 q3 hbz
              refine bodyPost_ret (v := .tuple #[.agg #[.int .i64 0, .int .i64 0, .int .i64 a, .string ⟨#[]⟩], .int .i64 0, .bool false]) (by simp [results, Tryd.results25, go_sem, q0, q1, q2, q3]) rfl ?_
              exact oneAns_no HN.out hbz ⟨0, 0, a, ⟨#[]⟩⟩ 0 rfl
            | succ g =>
              have hk22 : k < 22 := by omega
              have hkL : k < signsL.length := hk22
              have HSD := Lib.hid (signIn_drop (l := s.data.toList.drop a) hkL)
              have hc : wr.cell? ⟨bs, k, none⟩ = some (.string (signsL[k]'hkL)) := by
                rw [HS.out.cell k]
                unfold txs1
                rw [List.getElem?_map, List.getElem?_eq_getElem hkL]; rfl
              have hxl : (signsL[k]'hkL).size ≤ 2 := by
                have : ∀ x ∈ signsL, x.size ≤ 2 := by decide
                exact this _ (List.getElem_mem hkL)
              generalize signsL[k]'hkL = x at *
              have hpf := rbegins_any s x a wr hs (Nat.le_of_lt ha) (by omega)
              obtain ⟨q, hq⟩ : ∃ q, Lib.hasPrefix (s.data.toList.drop a) x.data.toList = q := ⟨_, rfl⟩
              rw [hq] at hpf HSD
              have HP := Lib.hid hpf
              clear hpf
              cases q with
              | true =>
                have HN := Lib.hid (show tot = some (⟨4, 0, 0, x⟩, x.size) by rw [HT.out, HSD.out, if_pos rfl])
                have hax : a + x.size ≤ s.size := by
                  have := hasPrefix_le hq
                  rw [List.length_drop] at this
                  simp at this; omega
                clear HT HSD HS hq
                have HO1 := Lib.hid (HO.out.put0 4)
                have HO2 := Lib.hid (HO1.out.put3 x)
                obtain ⟨g0, g1, g2, g3⟩ := HO.out.fr8
                obtain ⟨e0, e1, e2, e3⟩ := HO.out.cells
                go_wp2_with fail
                (with_reducible refine HP.out.mono ?_); rintro e w' ⟨rfl, rfl⟩
                go_upto_region 45 with fail
                generalize ((wr.setCell ⟨b8, 0, none⟩ (.int .i64 4)).setCell ⟨b8, 3, none⟩ (.string x)) = W3 at *
                obtain ⟨c0, c1, c2, c3⟩ := HO2.out.cells
                obtain ⟨f0, f1, f2, f3⟩ := HO2.out.fr4
                obtain ⟨d0', d1, d2, d3⟩ := HO2.out.cells4
                obtain ⟨hbz, hkz⟩ := HO2.out.told (.int .i64 4) (.int .i64 0) (.int .i64 a) (.string x)
                have HBZ := Lib.hid hbz; have HKZ := Lib.hid hkz
                clear hbz hkz g0 g1 g2 g3 e0 e1 e2 e3
                go_wp2_with fail
                obtain ⟨q0, q1, q2, q3⟩ := blk_cells4 HKZ.out
                have hbz := HBZ.out
                unfold set4W at q0 q1 q2 q3 hbz
                refine bodyPost_ret (v := .tuple #[.agg #[.int .i64 4, .int .i64 0, .int .i64 a, .string x], .int .i64 ((a + x.size : Nat) : Int), .bool true]) (by simp [results, Tryd.results25, go_sem, q0, q1, q2, q3]) rfl ?_
                exact oneAns_yes HN.out hbz rfl
              | false =>
                have HN := Lib.hid (show tot = signIn (s.data.toList.drop a) (signsL.drop (k + 1)) by rw [HT.out, HSD.out, if_neg (by simp)])
                clear HT HSD hq
                go_wp2_with fail
                (with_reducible refine HP.out.mono ?_); rintro e w' ⟨rfl, rfl⟩
                go_wp2_with fail
                go_roundg g
                case measure => omega
                case rel => exact ⟨k + 1, by omega, by go_num, HN.out, HO.out, HS.out⟩
end Go.Proofs.YtealflkblkfhbaaDoor
