/- klaxonlaw6.StoreCopies: the walk. -/
import Derived.Test.YthbinnbnmckmfaaStoCopyMath
import Derived.Test.YthbinnbnmckmfaaPoints
import Derived.Test.YthbinnbnmckmfaaStoRuns
namespace Go.Proofs.Ythbinnbnmckmfaa
open Go.ChangeShapes Go.WideShapes Go.ChangeAt Go.RowKit
set_option linter.unusedVariables false
set_option linter.unusedSimpArgs false
set_option maxRecDepth 100000
/-- The copy while it grows, the sets that were handed out, from the j'th on. -/
structure CopAt (WS : World) (g3 : Nat) (v30 v3 : Value) (L : List SR) (D : List SK) (i j : Nat) (rv : Value) (rows : List (Value × List Lbl)) (W : World) : Prop where
  st : StAt g3 v3 L W
  keys_ : keys L = capD D i
  dok : DOk (capD D i)
  lab : ∀ x ∈ L, ∀ k, x.sv.ownBlock = some k → k < WS.heap.size
  turn : TurnS g3 v30 WS W
  wh : Where WS v30 v3
  row : W.ownsRow WS.heap.size 26 1 rv rows.length (rows.map Prod.fst)
  each : ∀ q, j ≤ q → ∀ h : q < rows.length, W.ownsRow WS.heap.size 25 2 rows[q].1 rows[q].2.length (lbls rows[q].2)
section
variable {WS W W' : World} {g3 : Nat} {v30 v3 v4 : Value} {L L' : List SR} {D : List SK} {i j : Nat} {rv : Value} {rows : List (Value × List Lbl)}
theorem CopAt.below (h : CopAt WS g3 v30 v3 L D i j rv rows W) (hb : Below W.heap.size W W') : CopAt WS g3 v30 v3 L D i j rv rows W' :=
  ⟨h.st.below hb, h.keys_, h.dok, h.lab, h.turn.trans h.wh (.of_below hb), h.wh, own_below h.row hb (Nat.le_refl _), fun q hq hl => own_below (h.each q hq hl) hb (Nat.le_refl _)⟩
theorem CopAt.next (h : CopAt WS g3 v30 v3 L D i j rv rows W) : CopAt WS g3 v30 v3 L D i (j + 1) rv rows W := ⟨h.st, h.keys_, h.dok, h.lab, h.turn, h.wh, h.row, fun q hq hl => h.each q (by omega) hl⟩
/-- A cell of a set that was handed out is turned. -/
theorem CopAt.cell (h : CopAt WS g3 v30 v3 L D i j rv rows W) {u : Value} {n k : Nat} {cs : List Value} (ho : W.ownsRow WS.heap.size 25 2 u n cs) (hu : u.ownBlock = some k) (hap : ∀ q, j ≤ q → ∀ h : q < rows.length, rows[q].1.ownBlock ≠ some k) (o : Nat) (z : Value) : CopAt WS g3 v30 v3 L D i j rv rows (W.setCell ⟨k, o, none⟩ z) := by
  have hk := (ho.lt k hu).1
  have hst := h.st
  have key : ∀ q, q ≠ k → (W.setCell ⟨k, o, none⟩ z).heap[q]? = W.heap[q]? := fun q hq => Below.heap_setCell W ⟨k, o, none⟩ z q hq
  have hg3 : g3 ≠ k := fun e => by
    obtain ⟨cs2, f, e1⟩ := own_type ho hu
    have := hst.box.eq; rw [e, e1] at this
    injection this with this; injection this with _ this _
    exact absurd this (by decide)
  have hown : ∀ (e : TypeId) (b s m : Nat) (y : Value) (xs : List Value), W.ownsRow b e s y m xs → (y.ownBlock ≠ some k) → (W.setCell ⟨k, o, none⟩ z).ownsRow b e s y m xs := fun e b s m y xs h1 h2 => own_same h1 fun q hq _ => key q (fun e => h2 (by rw [hq, e]))
  have hne : ∀ (e : TypeId) (b s m : Nat) (y : Value) (xs : List Value), W.ownsRow b e s y m xs → e ≠ 25 → y.ownBlock ≠ some k := fun e b s m y xs h1 h2 h3 => own_ne h1 ho h2 k h3 hu
  refine ⟨⟨(key g3 hg3).trans hst.box, hown _ _ _ _ _ _ hst.rows (hne _ _ _ _ _ _ hst.rows (by decide)), fun x hx => ⟨hown _ _ _ _ _ _ (hst.each x hx).set_ (fun e => by have := h.lab x hx k e; omega), hown _ _ _ _ _ _ (hst.each x hx).smp_ (hne _ _ _ _ _ _ (hst.each x hx).smp_ (by decide))⟩⟩, h.keys_, h.dok, h.lab, ⟨h.turn.os, h.turn.tape, h.turn.output, by simpa using h.turn.size, fun q hq h1 h2 => (key q (by omega)).trans (h.turn.block q hq h1 h2)⟩, h.wh, hown _ _ _ _ _ _ h.row (hne _ _ _ _ _ _ h.row (by decide)), fun q hq hl => hown _ _ _ _ _ _ (h.each q hq hl) (hap q hq hl)⟩
/-- The copy takes a sample. -/
theorem CopAt.put (h : CopAt WS g3 v30 v3 L D i j rv rows W) {l : List Lbl} {e : Ending} (hp : PutAns g3 v3 L l endX W e W') (hS : putS (capD D i) l endX = capD D (i + 1)) (hB : placeB (capD D i) (printL l) = true) : ∃ v4 L', e = .returned (.int .i64 (putE (capD D i) l endX)) ∧ CopAt WS g3 v30 v4 L' D (i + 1) j rv rows W' := by
  obtain ⟨v4, L', rfl, hk, hst, hT, hw, hsv⟩ := hp
  rw [h.keys_] at hk hsv ⊢
  have hown : ∀ (e : TypeId) (b s m : Nat) (y : Value) (xs : List Value), W.ownsRow b e s y m xs → e ≠ 63 → e ≠ 71 → W'.ownsRow b e s y m xs := fun e b s m y xs ho h1 h2 => own_same ho fun k hk hl => hT.block k hl (fun e => by subst e; exact own_blk_ne ho h.st.box h1 hk) (fun e => own_ne ho h.st.rows h2 k hk e.symm)
  refine ⟨v4, L', rfl, hst, hk.trans hS, ?_, fun x hx k hxk => ?_, h.turn.trans h.wh hT, h.wh.trans2 hw h.turn.size, hown _ _ _ _ _ _ h.row (by decide) (by decide), fun q hq hl => hown _ _ _ _ _ _ (h.each q hq hl) (by decide) (by decide)⟩
  · rw [← hS]; exact h.dok.put _ _
  · rcases hsv x hx with ⟨z, hz, e⟩ | e
    · exact h.lab z hz k (e ▸ hxk)
    · rw [hB] at e; cases e
end
theorem Sto.cutall {w0 W : World} {g : Nat} {v : Value} {D : List SK} (h : Sto w0 g v D W) :
    Calls Try.prog 20 #[.pointer (some ⟨g, 0, none⟩), .int .i64 2199023255552] W fun e W' => ∃ v', e = .returned (.int .i64 (smpN D D.length)) ∧ Sto w0 g v' [] W' ∧ TurnS g v W W' := by
  obtain ⟨L, hL, hS, h1, h2⟩ := h.rows
  refine (scut_any g v L 2199023255552 W hS (by omega) (fun x hx => by have := h2 x hx; omega)).mono ?_
  rintro e W' ⟨v', L', rfl, hk, hS', hT, hv⟩
  rw [hL] at hk ⊢
  obtain ⟨c1, c2⟩ := cut_all h.dok
  rw [c2] at hk
  exact ⟨v', by rw [c1], ⟨⟨L', hk, hS'⟩, DOk.nil, h.bel.trans (h.turned hT), h.gs, fun k hk => by have := hv k hk; have := h.bel.size; omega⟩, hT⟩
theorem add_own0 (g j : Nat) : (⟨g, 0, none⟩ : Addr).add j = ⟨g, j, none⟩ := by unfold Addr.add; split <;> simp_all
set_option maxHeartbeats 8000000 in
theorem sto_copies (k : KStore) (t0 : Int) (w : World) (hk : k.ok w.heap.size w) (wt : I64 t0) :
    Calls Try.prog 6 #[k.val, .int .i64 t0] w fun e w' => e = .returned (.bool true) ∧ Below w.heap.size w w' := by
  obtain ⟨iL, hiL, hzL, hsL, hbL⟩ := info_parts Try.infoLabel
  have hb1 : Below w.heap.size w (w.alloc (.cells #[.slice k.A k.qs.length k.c, .slice k.A2 k.rs.length k.c2] 45)) := (Below.refl _ _).alloc (Nat.le_refl _) _
  have hbox : Blk (w.alloc (.cells #[.slice k.A k.qs.length k.c, .slice k.A2 k.rs.length k.c2] 45)) w.heap.size 45 [.slice k.A k.qs.length k.c, .slice k.A2 k.rs.length k.c2] := Blk.mk (heap_alloc_new w _)
  obtain ⟨W1, hW1⟩ : ∃ V, w.alloc (.cells #[.slice k.A k.qs.length k.c, .slice k.A2 k.rs.length k.c2] 45) = V := ⟨_, rfl⟩
  rw [hW1] at hb1 hbox
  obtain ⟨kb, hkb⟩ : ∃ b, w.heap.size = b := ⟨_, rfl⟩
  have HK1 := Lib.hid (hk.below hb1)
  have HB1 := Lib.hid hb1; have HBX := Lib.hid hbox; have HKB := Lib.hid hkb; have HW1 := Lib.hid hW1
  clear hb1 hbox hW1 hkb hk
  unfold KStore.val
  go_enter Try.func6, Try.ntmps6
  go_wp2_with fail
  rw [HW1.out]
  try rw [HKB.out]
  (with_reducible refine (new_any W1).mono ?_); rintro e w1 ⟨rfl, rfl⟩
  have HS1 := Lib.hid (Sto.new HB1.out)
  obtain ⟨g1, hg1⟩ : ∃ g, W1.heap.size = g := ⟨_, rfl⟩
  obtain ⟨W2, hW2⟩ : ∃ V, W1.alloc (.cells #[.slice none 0 0] 63) = V := ⟨_, rfl⟩
  have hb2 : Below W1.heap.size W1 W2 := by rw [← hW2]; exact (Below.refl _ _).alloc (Nat.le_refl _) _
  rw [hW2] at HS1 ⊢
  have HS2 : Hid (Sto w g1 (.slice none 0 0) [] W2) := Lib.hid (by rw [← hg1]; exact HS1.out)
  rw [hg1]
  have HBX2 := Lib.hid (HBX.out.below hb2 HBX.out.lt)
  have HK2 := Lib.hid (HK1.out.below (hb2.mono HB1.out.size))
  have HB2 := Lib.hid (HB1.out.trans (hb2.mono HB1.out.size))
  clear hW2 HS1 hg1 hb2 HBX HK1 HB1
  go_wp2_with fail
  (with_reducible refine (new_any W2).mono ?_); rintro e w2 ⟨rfl, rfl⟩
  have HS3 := Lib.hid (Sto.new HB2.out)
  obtain ⟨g2, hg2⟩ : ∃ g, W2.heap.size = g := ⟨_, rfl⟩
  obtain ⟨W3, hW3⟩ : ∃ V, W2.alloc (.cells #[.slice none 0 0] 63) = V := ⟨_, rfl⟩
  have hb3 : Below W2.heap.size W2 W3 := by rw [← hW3]; exact (Below.refl _ _).alloc (Nat.le_refl _) _
  rw [hW3] at HS3 ⊢
  have HT3 : Hid (TwoSto w g1 (.slice none 0 0) [] g2 (.slice none 0 0) [] W3) := Lib.hid ⟨HS2.out.below hb3, by rw [← hg2]; exact HS3.out, by have := HS2.out.lt; omega, fun k hk => by simp [Value.ownBlock] at hk⟩
  rw [hg2]
  have HBX3 := Lib.hid (HBX2.out.below hb3 HBX2.out.lt)
  have HK3 := Lib.hid (HK2.out.below (hb3.mono HB2.out.size))
  clear hW3 HS3 HS2 hg2 hb3 HBX2 HK2 HB2
  have z0 := HBX3.out.cell 0
  have z1 := HBX3.out.cell 1
  simp only [List.getElem?_cons_zero, List.getElem?_cons_succ] at z0 z1
  rw [HKB.out] at z0 z1
  have hmf : ∀ (fn : Fn) (first cap : Array Value) (w : World), (Instr.makeFunc fn first cap).run Try.prog w = .ok (.func fn first cap) w := fun _ _ _ _ => rfl
  have HFI := Lib.hid (fill_any k w g1 (.slice none 0 0) W3 HT3.out.a HK3.out)
  unfold KStore.val at HFI
  go_wp2_with fail
  (with_reducible refine HFI.out.mono ?_); rintro e W4 ⟨v1, rfl, hS4, hT4, hw4⟩
  have HT4 := Lib.hid (HT3.out.putA hS4 hT4 hw4)
  have HBX4 := Lib.hid (HT3.out.a.blk hT4 HBX3.out (by decide) (by decide))
  have HK4 := Lib.hid (HK3.out.below (HT3.out.a.turned hT4))
  clear hS4 hT4 hw4 HT3 HFI HK3 HBX3 z0 z1
  have z0 := HBX4.out.cell 0
  have z1 := HBX4.out.cell 1
  simp only [List.getElem?_cons_zero, List.getElem?_cons_succ] at z0 z1
  rw [HKB.out] at z0 z1
  have HFI := Lib.hid (fill_any k w g2 (.slice none 0 0) W4 HT4.out.b HK4.out)
  unfold KStore.val at HFI
  go_wp2_with fail
  (with_reducible refine HFI.out.mono ?_); rintro e W5 ⟨v2, rfl, hS5, hT5, hw5⟩
  have HT5 := Lib.hid (HT4.out.putB hS5 hT5 hw5)
  clear hS5 hT5 hw5 HT4 HFI HK4 HBX4 z0 z1 hmf
  have HEA := Lib.hid (fillF_early k)
  generalize fillF k = D at *
  obtain ⟨L, hL, hSt, hL32, hLs⟩ := HT5.out.a.rows
  have HCP := Lib.hid (copy_any g1 v1 L W5 hSt (by omega))
  have HLK := Lib.hid hL
  have HLA : Hid (∀ x ∈ L, ∀ k, x.sv.ownBlock = some k → k < W5.heap.size) := Lib.hid fun x hx k hxk => ((hSt.each x hx).set_.lt k hxk).2
  clear hL hSt hL32 hLs
  go_wp2_with fail
  (with_reducible refine HCP.out.mono ?_); rintro e WS ⟨g3, v3, hq3, hv3, rfl, hst3, hb6⟩
  have HT6 := Lib.hid (HT5.out.below hb6)
  have hs6 := hb6.size
  have HC6 : Hid (Sto w g3 v3 D WS) := Lib.hid ⟨⟨L, HLK.out, hst3⟩, HT6.out.a.dok, HT6.out.a.bel, by have := HT5.out.a.bel.size; omega, fun k hk => by have := hv3 k hk; have := HT5.out.a.bel.size; omega⟩
  have hn13 : g1 ≠ g3 := by have := HT5.out.a.lt; omega
  have hn23 : g2 ≠ g3 := by have := HT5.out.b.lt; omega
  have HV13 : Hid (∀ k, v1.ownBlock = some k → v3.ownBlock ≠ some k) := Lib.hid fun k h1 h2 => by have := HT5.out.a.own_lt k h1; have := hv3 k h2; omega
  have HV23 : Hid (∀ k, v2.ownBlock = some k → v3.ownBlock ≠ some k) := Lib.hid fun k h1 h2 => by have := HT5.out.b.own_lt k h1; have := hv3 k h2; omega
  have HA : Hid (∀ V, TurnS g3 v3 WS V → Sto w g1 v1 D V) := Lib.hid fun V hV => HC6.out.other hV HT6.out.a hn13 HV13.out (HC6.out.bel.trans (HC6.out.turned hV))
  have HB : Hid (∀ V, TurnS g3 v3 WS V → Sto w g2 v2 D V) := Lib.hid fun V hV => HC6.out.other hV HT6.out.b hn23 HV23.out (HC6.out.bel.trans (HC6.out.turned hV))
  have HLA2 : Hid (∀ x ∈ L, ∀ k, x.sv.ownBlock = some k → k < WS.heap.size) := Lib.hid fun x hx k hxk => by have := HLA.out x hx k hxk; omega
  have HST3 := Lib.hid hst3
  have HSETS := Lib.hid (by
    obtain ⟨L1, hL1, hSt1, hL32, hLs⟩ := HT6.out.a.rows
    have h := sets_any2 g1 v1 L1 WS hSt1 (by omega) (fun x hx => by have := hLs x hx; omega)
    rw [hL1] at h; exact h)
  have hD32 := HT6.out.a.dok.len
  have HDK := Lib.hid HT6.out.a.dok
  clear hb6 hst3 hv3 HCP HT5 HLA hq3 hs6
  go_wp2_with fail
  (with_reducible refine HSETS.out.mono ?_); rintro e W7 ⟨A7, c7, rows, hrs, rfl, hrow7, hb7, hc7, hd7⟩
  have hrl : rows.length = D.length := by have := congrArg List.length hrs; simpa [setsOf] using this
  have HRS : Hid (∀ q (h : q < rows.length), rows[q].2 = (D[q]'(by rw [← hrl]; exact h)).1) := Lib.hid fun q h => by
    have h1 : (setsOf rows)[q]'(by simp [setsOf]; exact h) = (D.map Prod.fst)[q]'(by simp; omega) := by simp only [hrs]
    simpa [setsOf] using h1
  have HAP := Lib.hid hrow7.apart
  have HC7 : Hid (CopAt WS g3 v3 v3 L D 0 0 (.slice A7 rows.length c7) rows W7) := Lib.hid ⟨HST3.out.below hb7, by rw [capD_zero]; exact HLK.out, by rw [capD_zero]; exact HDK.out, HLA2.out, .of_below hb7, .inl rfl, hrow7.own, fun q _ h => hrow7.each _ (List.getElem_mem h)⟩
  clear hrow7 hb7 HSETS HST3 hrs HLA2 HLK
  obtain ⟨nr, hnr⟩ : ∃ n, rows.length = n := ⟨_, rfl⟩
  have HNR := Lib.hid hnr
  rw [hnr] at HC7 hrl hc7 ⊢
  clear hnr
  have HDL := Lib.hid hrl
  have hn32 : nr ≤ 32 := by omega
  clear hrl
  go_wp2_with fail
  go_loopg [8, 47] nr (fun gg x8 x47 wx => ∃ (i q : Nat) (v4 : Value) (L4 : List SR), i + gg = nr ∧ x47 = .int .i64 i ∧ x8 = .int .i64 q ∧ q = smpN D i ∧ CopAt WS g3 v3 v4 L4 D i i (.slice A7 nr c7) rows wx)
  case atStart => exact ⟨0, 0, v3, L, by omega, rfl, rfl, by simp [smpN], HC7.out⟩
  case round =>
    obtain ⟨i, q, v4, L4, hig, rfl, rfl, hq, hC⟩ := hrel
    have HC := Lib.hid hC; have HQ := Lib.hid hq
    clear hC hq HC7
    cases gk with
    | zero =>
      obtain rfl : i = nr := by omega
      have HSA := Lib.hid (HA.out _ HC.out.turn)
      have HSB := Lib.hid (HB.out _ HC.out.turn)
      have HSC : Hid (Sto w g3 v4 (capD D i) wr) := Lib.hid ⟨⟨L4, HC.out.keys_, HC.out.st⟩, HC.out.dok, HSA.out.bel, HC6.out.gs, fun k hk => by
        rcases HC.out.wh with e | e
        · exact HC6.out.vs k (e ▸ hk)
        · have := e k hk; have := HC6.out.bel.size; omega⟩
      have HV14 : Hid (∀ k, v4.ownBlock = some k → v1.ownBlock ≠ some k) := Lib.hid fun k h1 h2 => by
        rcases HC.out.wh with e | e
        · exact HV13.out k h2 (e ▸ h1)
        · have := e k h1; have := HT6.out.a.own_lt k h2; omega
      have hn12 := HT6.out.ne
      have HV12 : Hid (∀ k, v2.ownBlock = some k → v1.ownBlock ≠ some k) := Lib.hid fun k h1 h2 => HT6.out.nv k h2 h1
      have HQL : Hid (q = smpN D D.length) := Lib.hid (by rw [HQ.out, HDL.out])
      have hcl := capD_len D i
      have HCL := Lib.hid hcl
      have hds := HDL.out
      clear HC HA HB HT6 HC6 HV13 HV23 HRS HAP HNR HQ HEA hcl hig
      have htb := nWithin_in t0 (lo := 0) (hi := 300) (by omega)
      have HWI := Lib.hid (within_any t0 0 300 wr wt (by omega) (by omega) (by omega))
      generalize nWithin t0 0 300 = tt at *
      go_wp2_with fail
      (with_reducible refine HWI.out.mono ?_); rintro e w' ⟨rfl, rfl⟩
      clear HWI
      go_wp2_with fail
      (with_reducible refine (HSA.out.pick tt 30 none 0 0 [] Sees.nil (by omega) (by omega) (by omega)).mono ?_)
      rintro e W9 ⟨A9, c9, r9, hr9, rfl, hp9, hb9, hc9, hd9⟩
      have HSA9 := Lib.hid (HSA.out.below hb9); have HSB9 := Lib.hid (HSB.out.below hb9); have HSC9 := Lib.hid (HSC.out.below hb9)
      have HP9 := Lib.hid hp9
      clear hb9 hp9 HSA HSB HSC
      go_wp2_with fail
      (with_reducible refine (HSB9.out.pick tt 30 none 0 0 [] Sees.nil (by omega) (by omega) (by omega)).mono ?_)
      rintro e WA ⟨AA, cA, rA, hrA, rfl, hpA, hbA, hcA, hdA⟩
      have HSAA := Lib.hid (HSA9.out.below hbA); have HSBA := Lib.hid (HSB9.out.below hbA); have HSCA := Lib.hid (HSC9.out.below hbA)
      have HPT := Lib.hid (points_any _ _ A9 AA c9 cA r9 rA WA (HP9.out.below hbA) hpA)
      rw [hr9, hrA, decide_eq_true rfl] at HPT
      clear hbA hpA HP9 hr9 hrA HSA9 HSB9 HSC9
      go_wp2_with fail
      (with_reducible refine HPT.out.mono ?_); rintro e WB ⟨rfl, hbB⟩
      have HSAB := Lib.hid (HSAA.out.below hbB); have HSBB := Lib.hid (HSBA.out.below hbB); have HSCB := Lib.hid (HSCA.out.below hbB)
      clear hbB HPT HSAA HSBA HSCA
      go_wp2_with fail
      (with_reducible refine HSAB.out.sets.mono ?_); rintro e WC ⟨AC, cC, rC, hrC, rfl, _, hbC, _, _⟩
      have hlC : rC.length = i := by have := congrArg List.length hrC; simp only [setsOf, List.length_map] at this; omega
      rw [hlC]
      have HSAC := Lib.hid (HSAB.out.below hbC); have HSBC := Lib.hid (HSBB.out.below hbC); have HSCC := Lib.hid (HSCB.out.below hbC)
      clear hbC hrC hlC HSAB HSBB HSCB
      go_wp2_with fail
      (with_reducible refine HSBC.out.sets.mono ?_); rintro e WD ⟨AD, cD, rD, hrD, rfl, _, hbD, _, _⟩
      have hlD : rD.length = i := by have := congrArg List.length hrD; simp only [setsOf, List.length_map] at this; omega
      rw [hlD]
      have HSAD := Lib.hid (HSAC.out.below hbD); have HSBD := Lib.hid (HSBC.out.below hbD); have HSCD := Lib.hid (HSCC.out.below hbD)
      clear hbD hrD hlD HSAC HSBC HSCC
      go_wp2_with fail
      (with_reducible refine HSAD.out.cutall.mono ?_); rintro e WE ⟨v5, rfl, hSE, hTE⟩
      rw [← HQL.out]
      have hbel := HSAD.out.turned hTE
      have HSAE := Lib.hid hSE
      have HSBE := Lib.hid (HSAD.out.other hTE HSBD.out (fun e => hn12 e.symm) HV12.out (HSBD.out.bel.trans hbel))
      have HSCE := Lib.hid (HSAD.out.other hTE HSCD.out (fun e => hn13 e.symm) HV14.out (HSCD.out.bel.trans hbel))
      clear hSE hTE hbel HSAD HSBD HSCD
      go_wp2_with fail
      (with_reducible refine HSAE.out.sets.mono ?_); rintro e WF ⟨AF, cF, rF, hrF, rfl, _, hbF, _, _⟩
      have hlF : rF.length = 0 := by have := congrArg List.length hrF; simpa [setsOf] using this
      rw [hlF]
      have HSAF := Lib.hid (HSAE.out.below hbF); have HSBF := Lib.hid (HSBE.out.below hbF); have HSCF := Lib.hid (HSCE.out.below hbF)
      clear hbF hrF hlF HSAE HSBE HSCE
      go_wp2_with fail
      (with_reducible refine (HSAF.out.pick tt 30 none 0 0 [] Sees.nil (by omega) (by omega) (by omega)).mono ?_)
      rintro e WG ⟨AG, cG, rG, hrG, rfl, _, hbG, hcG, hdG⟩
      have hlG : rG.length = 0 := by have := congrArg List.length hrG; simpa [ptsOf, pickS] using this
      rw [hlG]
      have HSBG := Lib.hid (HSBF.out.below hbG); have HSCG := Lib.hid (HSCF.out.below hbG)
      clear hbG hrG hlG HSAF HSBF HSCF hcG
      go_wp2_with fail
      (with_reducible refine HSBG.out.sets.mono ?_); rintro e WH ⟨AH, cH, rH, hrH, rfl, _, hbH, _, _⟩
      have hlH : rH.length = i := by have := congrArg List.length hrH; simp only [setsOf, List.length_map] at this; omega
      rw [hlH]
      have HSCH := Lib.hid (HSCG.out.below hbH)
      clear hbH hrH hlH HSBG HSCG
      go_wp2_with fail
      (with_reducible refine HSCH.out.sets.mono ?_); rintro e WI ⟨AI, cI, rI, hrI, rfl, _, hbI, _, _⟩
      have hlI : rI.length = i := by have := congrArg List.length hrI; simp only [setsOf, List.length_map] at this; have := HCL.out; omega
      rw [hlI]
      have HSCI := Lib.hid (HSCH.out.below hbI)
      clear hbI hrI hlI HSCH
      go_wp2_with fail
      (with_reducible refine (store_runs WI).mono ?_); rintro e WJ ⟨rfl, hbJ⟩
      have HBJ := Lib.hid (HSCI.out.below hbJ).bel
      clear hbJ HSCI
      go_wp2_with fail
      go_ret
      exact ⟨rfl, HBJ.out⟩
    | succ gg =>
      have hin : i < nr := by omega
      have hir : i < rows.length := by rw [HNR.out]; exact hin
      have hiD : i < D.length := by rw [← HDL.out]; exact hin
      have hrow := HC.out.row
      rw [HNR.out] at hrow
      obtain ⟨adr, u0, hAr, hu0, d0⟩ := (Sees.of_own hrow).one hin
      have hu1 : u0 = rows[i].1 := by rw [List.getElem?_map, List.getElem?_eq_getElem hir] at hu0; injection hu0 with h; exact h.symm
      have hset := HC.out.each i (Nat.le_refl _) hir
      rw [HRS.out i hir] at hset
      rw [← hu1] at hset
      obtain ⟨As, cs, hsu, hcs1, hcs2⟩ := own_slice hset
      subst hsu
      have hsl := rightS_len (HDK.out.row _ (List.getElem_mem hiD)).1
      have HEi := Lib.hid (HEA.out D[i] (List.getElem_mem hiD))
      have HSMP := Lib.hid (smpF_self HDK.out.sorted hiD)
      have HCPU := Lib.hid (cap_put HC.out.dok HDK.out hiD HEi.out.1 HEi.out.2)
      have HSN := Lib.hid (smpN_more hiD)
      have hq200 := smpN_le (fun x hx => (HDK.out.row x hx).2.1) i
      rw [← HQ.out] at hq200
      have HAPI : Hid (∀ q, i + 1 ≤ q → ∀ h : q < rows.length, ∀ k, (Value.slice As D[i].1.length cs).ownBlock = some k → rows[q].1.ownBlock ≠ some k) := Lib.hid fun q hq h k hk => by
        have := List.pairwise_iff_getElem.1 HAP.out i q hir h (by omega) k
        rw [← hu1] at this
        exact this hk
      have HSETv : Hid (∀ V, Below wr.heap.size wr V → V.ownsRow WS.heap.size 25 2 (.slice As D[i].1.length cs) D[i].1.length (lbls D[i].1)) := Lib.hid fun V hV => own_below hset hV (Nat.le_refl _)
      have HCv : Hid (∀ V, Below wr.heap.size wr V → CopAt WS g3 v3 v4 L4 D i i (.slice A7 nr c7) rows V) := Lib.hid fun V hV => HC.out.below hV
      have hlt := HEi.out.1
      clear hu0 hu1 hset HEi
      subst hAr
      have hadr := World.block_lt_of_cell? wr _ d0
      generalize D[i].1 = li at *
      obtain ⟨ls, hls⟩ : ∃ x, D[i].2 = x := ⟨_, rfl⟩
      rw [hls] at HSMP HSN hlt
      clear hls
      obtain ⟨n, hn⟩ : ∃ n, li.length = n := ⟨_, rfl⟩
      have HNL := Lib.hid hn
      rw [hn] at HAPI HSETv hcs1 hsl d0
      clear hn hrow
      have HSAM := Lib.hid ((HA.out _ HC.out.turn).samples As n cs li (Sees.of_own (HSETv.out _ (Below.refl _ _))) (by omega))
      rw [HSMP.out] at HSAM
      obtain ⟨m, hm⟩ : ∃ m, ls.length = m := ⟨_, rfl⟩
      have HML := Lib.hid hm
      rw [hm] at HSAM HSN hlt
      clear hm
      go_wp2_with fail
      (with_reducible refine HSAM.out.mono ?_); rintro e W8 ⟨A8, c8, rfl, hown8, hb8, hc8, hd8⟩
      have HB8 := Lib.hid hb8
      have HX8 := Lib.hid hown8
      clear hown8 hb8 HSAM d0
      have hqm : (q : Int) + m ≤ 100000 := by omega
      go_wp2_with fail
      go_loopg [60] m (fun gq x60 wx => ∃ (j2 : Nat) (xs : List Value), j2 + gq = m ∧ x60 = .int .i64 j2 ∧ Below wr.heap.size wr wx ∧ wx.ownsRow wr.heap.size 30 2 (.slice A8 m c8) m xs)
      case atStart => exact ⟨0, _, by omega, rfl, HB8.out, HX8.out⟩
      case round =>
        obtain ⟨j2, xs, hjg, rfl, hb9, hx9⟩ := hrel
        have HB9 := Lib.hid hb9; have HX9 := Lib.hid hx9
        clear hb9 hx9 HB8 HX8
        cases gk with
        | succ gq =>
          obtain ⟨gl, cl, hv9, hgl1, hgl2, hfz, hce⟩ := own_cells HX9.out (by omega) (by omega)
          injection hv9 with hA9 _ hc9
          obtain ⟨u0, e0⟩ := hce (j2 * 2) (by omega)
          obtain ⟨u1, e1⟩ := hce (j2 * 2 + 1) (by omega)
          have f0 := hfz (j2 * 2)
          have f1 := hfz (j2 * 2 + 1)
          subst hA9
          subst hc9
          have hjm : j2 < m := by omega
          go_wp2_with fail
          obtain ⟨xs2, hx2⟩ := own_set_some HX9.out gl (j2 * 2) (.int .i64 (-1))
          obtain ⟨xs3, hx3⟩ := own_set_some hx2 gl (j2 * 2 + 1) (.int .i64 0)
          have HB10 := Lib.hid ((HB9.out.setCell (p := ⟨gl, j2 * 2, none⟩) hgl1 (.int .i64 (-1))).setCell (p := ⟨gl, j2 * 2 + 1, none⟩) hgl1 (.int .i64 0))
          go_roundg gq
          case measure => omega
          case rel => exact ⟨j2 + 1, xs3, by omega, by go_num, HB10.out, hx3⟩
        | zero =>
          obtain rfl : j2 = m := by omega
          have HCX := Lib.hid ((HCv.out _ HB9.out).next)
          have HSX := Lib.hid (HSETv.out _ HB9.out)
          clear HB9 HX9 HCv HSETv HC
          obtain ⟨bo, hbo⟩ : ∃ b, wr.heap.size = b := ⟨_, rfl⟩
          have HBO := Lib.hid hbo
          have HAB : Hid (∀ k, (Value.slice As n cs).ownBlock = some k → WS.heap.size ≤ k ∧ k < bo) := Lib.hid fun k hk => by have := HSX.out.lt k hk; omega
          have hb10 : Below wr.heap.size wr (wr.alloc (.cells #[] 25)) := (Below.refl _ _).alloc (Nat.le_refl _) _
          have HE10 : Hid (Blk (wr.alloc (.cells #[] 25)) wr.heap.size 25 []) := Lib.hid (Blk.mk (heap_alloc_new wr _))
          have HOW : Hid ((wr.alloc (.cells #[] 25)).ownsRow wr.heap.size 25 2 (.slice (some ⟨wr.heap.size, 0, none⟩) 0 0) 0 []) := Lib.hid ⟨by simp, .inr ⟨wr.heap.size, 0, #[], rfl, Nat.le_refl _, HE10.out, Nat.le_refl _, by simp, by simp, by simp⟩⟩
          have HB10 := Lib.hid hb10
          have HS10 := Lib.hid (Sees.of_own (own_below HSX.out hb10 (Nat.le_refl _)))
          clear hb10 hbo
          go_wp2_with (at_builtin; refine wpList_append_at rfl (.tmp 68) (.tmp 69) 26 rfl wr.heap.size 25 iL (.agg #[.string ⟨#[]⟩, .string ⟨#[]⟩]) 2 32 Try.underlying26 hiL hzL hsL hbL rfl (by decide) (.slice (some ⟨wr.heap.size, 0, none⟩) 0 0) 0 [] rfl HOW.out _ _ n cs (lbls li) rfl HS10.out (lbls_one _) (by unfold maxLen; omega) (by omega) (by simp) ?_)
          intro v11 w11 hown11 hgr11 hwh11
          try simp only [Nat.zero_add, List.nil_append] at hown11
          obtain ⟨AO, cO, rfl, hcO, hdO⟩ := own_slice hown11
          have hb11 := HB10.out.grown hgr11 (by simp) (fun b hb => by simp [Value.ownBlock] at hb; omega)
          have HC11 := Lib.hid (HCX.out.below hb11)
          have HS11 := Lib.hid (own_below HSX.out hb11 (Nat.le_refl _))
          have HO11 : Hid (w11.ownsRow bo 25 2 (.slice AO n cO) n (lbls li)) := Lib.hid (by rw [← HBO.out]; exact hown11)
          clear hown11 hgr11 hwh11 hb11 HCX HSX HOW HE10 HS10 HB10
          go_wp2_with fail
          go_loopg [73] n (fun gq x73 wx => ∃ (j3 : Nat) (xs3 : List Value), j3 + gq = n ∧ x73 = .int .i64 j3 ∧ CopAt WS g3 v3 v4 L4 D i (i + 1) (.slice (some adr) nr c7) rows wx ∧ wx.ownsRow WS.heap.size 25 2 (.slice As n cs) n xs3 ∧ wx.ownsRow bo 25 2 (.slice AO n cO) n (lbls li))
          case atStart => exact ⟨0, _, by omega, rfl, HC11.out, HS11.out, HO11.out⟩
          case round =>
            obtain ⟨j3, xs3, hj3, rfl, hC12, hS12, hO12⟩ := hrel
            have HC12 := Lib.hid hC12; have HS12 := Lib.hid hS12; have HO12 := Lib.hid hO12
            clear hC12 hS12 hO12 HC11 HS11 HO11
            cases gk with
            | succ gq =>
              obtain ⟨gs, cl2, hv12, hgs1, hgs2, hfz, hce⟩ := own_cells HS12.out (by omega) (by omega)
              injection hv12 with hA12 _ hc12
              obtain ⟨u1, e1⟩ := hce (j3 * 2 + 1) (by omega)
              have f1 := hfz (j3 * 2 + 1)
              subst hA12
              subst hc12
              have hjn : j3 < n := by omega
              obtain ⟨xs4, hx4⟩ := own_set_some HS12.out gs (j3 * 2 + 1) (.string ⟨#[116, 117, 114, 110, 101, 100]⟩)
              have HX4 := Lib.hid hx4
              have HC13 := Lib.hid (HC12.out.cell HS12.out (k := gs) rfl (fun q hq h => HAPI.out q hq h gs rfl) (j3 * 2 + 1) (.string ⟨#[116, 117, 114, 110, 101, 100]⟩))
              have HO13 : Hid ((wr.setCell ⟨gs, j3 * 2 + 1, none⟩ (.string ⟨#[116, 117, 114, 110, 101, 100]⟩)).ownsRow bo 25 2 (.slice AO n cO) n (lbls li)) := Lib.hid (own_far HO12.out (p := ⟨gs, j3 * 2 + 1, none⟩) (HAB.out gs rfl).2 _)
              clear hx4 HC12 HO12
              go_wp2_with fail
              go_roundg gq
              case measure => omega
              case rel => exact ⟨j3 + 1, xs4, by omega, by go_num, HC13.out, HX4.out, HO13.out⟩
            | zero =>
              obtain rfl : j3 = n := by omega
              clear HS12
              have HSA := Lib.hid ((HA.out _ HC12.out.turn).samples AO j3 cO li (Sees.of_own HO12.out) (by omega))
              rw [HSMP.out, HML.out] at HSA
              go_wp2_with fail
              (with_reducible refine HSA.out.mono ?_); rintro e W14 ⟨A14, c14, rfl, hown14, hb14, hc14, hd14⟩
              have HC14 := Lib.hid (HC12.out.below hb14)
              have HO14 := Lib.hid (own_below HO12.out hb14 (Nat.le_refl _))
              have HSB := Lib.hid ((HB.out _ HC14.out.turn).samples AO j3 cO li (Sees.of_own HO14.out) (by omega))
              rw [HSMP.out, HML.out] at HSB
              have HX14 := Lib.hid hown14
              clear hown14 hb14 HSA HC12 HO12
              go_wp2_with fail
              (with_reducible refine HSB.out.mono ?_); rintro e W15 ⟨A15, c15, rfl, hown15, hb15, hc15, hd15⟩
              have HC15 := Lib.hid (HC14.out.below hb15)
              have HO15 := Lib.hid (own_below HO14.out hb15 (Nat.le_refl _))
              have HSS := Lib.hid (same_smp A14 A15 j2 c14 j2 c15 _ _ ls ls W15 (Sees.of_own (own_below HX14.out hb15 (Nat.le_refl _))) (Sees.of_own hown15) (by omega) (by omega))
              rw [decide_eq_true (rfl : ls = ls)] at HSS
              clear hown15 hb15 HSB HC14 HO14 HX14
              go_wp2_with fail
              (with_reducible refine HSS.out.mono ?_); rintro e W16 ⟨rfl, p16, rfl⟩
              have hb16 : Below W15.heap.size W15 (W15.drewN p16) := below_drewN3 (Below.refl _ _) p16
              have HC16 := Lib.hid (HC15.out.below hb16)
              have HO16 := Lib.hid (own_below HO15.out hb16 (Nat.le_refl _))
              clear hb16 HSS HC15 HO15
              generalize W15.drewN p16 = W16 at *
              have HPU := Lib.hid (put_any g3 v4 L4 AO j3 cO li 1099511627776 0 W16 HC16.out.st (by have := congrArg List.length HC16.out.keys_; rw [keys_length, capD_len] at this; omega) (Sees.of_own HO16.out) (by omega) (fun x hx => by
                have hm : x.key ∈ keys L4 := List.mem_map.2 ⟨x, hx, rfl⟩
                rw [HC16.out.keys_] at hm
                have h1 := (HC16.out.dok.row x.key hm).2.1
                have h2 : x.ss.length ≤ 200 := h1
                omega))
              go_wp2_with fail
              (with_reducible refine HPU.out.mono ?_); intro e W17 hpa
              obtain ⟨v5, L5, rfl, hC17⟩ := HC16.out.put hpa HCPU.out.2.1 HCPU.out.2.2
              rw [HCPU.out.1]
              have HC17 := Lib.hid hC17
              have HQN : Hid (q + j2 = smpN D (i + 1)) := Lib.hid (by rw [HSN.out, HQ.out])
              clear hpa hC17 HPU HC16 HO16
              go_wp2_with fail
              go_roundg gg
              case measure => omega
              case rel => exact ⟨i + 1, q + j2, v5, L5, by omega, by go_num, by go_num, HQN.out, HC17.out⟩
end Go.Proofs.Ythbinnbnmckmfaa
