/- klaxonlaw6.StoreLimits: the walk. -/
import Derived.Test.YthbinnbnmckmfaaStoTwo
import Derived.Test.YthbinnbnmckmfaaStoRuns
namespace Go.Proofs.Ythbinnbnmckmfaa
open Go.ChangeShapes Go.WideShapes Go.ChangeAt Go.RowKit
set_option linter.unusedVariables false
set_option maxRecDepth 100000
theorem conv_z (w : World) (c : UInt8) (z : Int) (hc : z = c.toNat) : (convert 52 9 (.slice (some ⟨w.heap.size, 0, none⟩) 1 1)).run Try.prog (w.alloc (.cells #[.int .u8 z] 5)) = .ok (.string ⟨#[c]⟩) (w.alloc (.cells #[.int .u8 z] 5)) := by
  have hb : Blk (w.alloc (.cells #[.int .u8 z] 5)) w.heap.size 5 [.int .u8 z] := Blk.mk (heap_alloc_new w _)
  refine run_convert_bytes_back _ 52 9 5 ⟨w.heap.size, 0, none⟩ 1 [c] Try.underlying52 Try.underlying5 Try.underlying9 fun j hj => ?_
  have hj0 : j = 0 := by simpa using hj
  subst hj0
  rw [add_zero', hb.cell 0]
  simp only [List.getElem?_cons_zero, List.getElem_cons_zero, hc]
/-- A pick's length. -/
theorem PtsAns.len {ps : List (List Lbl × Int)} {w w' : World} {e : Ending} (h : PtsAns ps w e w') : ∃ A c, e = .returned (.slice A ps.length c) ∧ Below w.heap.size w w' := by
  obtain ⟨A, c, rows, hr, rfl, _, hb, _, _⟩ := h
  have e : rows.length = ps.length := by rw [← hr]; simp [ptsOf]
  exact ⟨A, c, by rw [e], hb⟩
theorem mtc_one {w : World} (nm vl : ByteArray) (kd : Int) : Sees (w.alloc (.cells #[.string nm, .string vl, .int .i64 kd] 54)) (w.alloc (.cells #[.string nm, .string vl, .int .i64 kd] 54)).heap.size 3 (some ⟨w.heap.size, 0, none⟩) 1 (mtcs [(nm, vl, kd)]) :=
  (Blk.mk (heap_alloc_new w _) : Blk _ w.heap.size 54 [.string nm, .string vl, .int .i64 kd]).sees rfl (List.prefix_refl _)
set_option maxHeartbeats 8000000 in
theorem sto_limits (k : KStore) (t look : Int) (name value : ByteArray) (w : World) (hk : k.ok w.heap.size w) (wt : I64 t) (wl : I64 look) (hnm : name.size ≤ maxLen) (hvl : value.size ≤ maxLen) :
    Calls Try.prog 5 #[k.val, .int .i64 t, .int .i64 look, .string name, .string value] w fun e w' => e = .returned (.bool true) ∧ Below w.heap.size w w' := by
  unfold maxLen at hnm hvl
  have hb1 : Below w.heap.size w (w.alloc (.cells #[.slice k.A k.qs.length k.c, .slice k.A2 k.rs.length k.c2] 45)) := (Below.refl _ _).alloc (Nat.le_refl _) _
  have hbox : Blk (w.alloc (.cells #[.slice k.A k.qs.length k.c, .slice k.A2 k.rs.length k.c2] 45)) w.heap.size 45 [.slice k.A k.qs.length k.c, .slice k.A2 k.rs.length k.c2] := Blk.mk (heap_alloc_new w _)
  obtain ⟨W1, hW1⟩ : ∃ V, w.alloc (.cells #[.slice k.A k.qs.length k.c, .slice k.A2 k.rs.length k.c2] 45) = V := ⟨_, rfl⟩
  rw [hW1] at hb1 hbox
  obtain ⟨kb, hkb⟩ : ∃ b, w.heap.size = b := ⟨_, rfl⟩
  have HK1 := Lib.hid (hk.below hb1)
  have HB1 := Lib.hid hb1; have HBX := Lib.hid hbox; have HKB := Lib.hid hkb; have HW1 := Lib.hid hW1
  clear hb1 hbox hW1 hkb hk
  unfold KStore.val
  go_enter Try.func5, Try.ntmps5
  go_wp2_with fail
  rw [HW1.out]
  try rw [HKB.out]
  (with_reducible refine (new_any W1).mono ?_); rintro e w1 ⟨rfl, rfl⟩
  have HS1 := Lib.hid (Sto.new HB1.out)
  obtain ⟨g1, hg1⟩ : ∃ g, W1.heap.size = g := ⟨_, rfl⟩
  obtain ⟨W2, hW2⟩ : ∃ V, W1.alloc (.cells #[.slice none 0 0] 63) = V := ⟨_, rfl⟩
  have hb2 : Below W1.heap.size W1 W2 := by rw [← hW2]; exact (Below.refl _ _).alloc (Nat.le_refl _) _
  rw [hW2] at HS1 ⊢
  have HS2 : Hid (Sto w g1 (.slice none 0 0) [] W2) := Lib.hid (by rw [← hg1]; exact HS1.out)
  rw [hg1]
  have HBX2 := Lib.hid (HBX.out.below hb2 HBX.out.lt)
  have HK2 := Lib.hid (HK1.out.below (hb2.mono HB1.out.size))
  have HB2 := Lib.hid (HB1.out.trans (hb2.mono HB1.out.size))
  clear hW2 HS1 hg1 hb2 HBX HK1 HB1
  go_wp2_with fail
  (with_reducible refine (new_any W2).mono ?_); rintro e w2 ⟨rfl, rfl⟩
  have HS3 := Lib.hid (Sto.new HB2.out)
  obtain ⟨g2, hg2⟩ : ∃ g, W2.heap.size = g := ⟨_, rfl⟩
  obtain ⟨W3, hW3⟩ : ∃ V, W2.alloc (.cells #[.slice none 0 0] 63) = V := ⟨_, rfl⟩
  have hb3 : Below W2.heap.size W2 W3 := by rw [← hW3]; exact (Below.refl _ _).alloc (Nat.le_refl _) _
  rw [hW3] at HS3 ⊢
  have HT3 : Hid (TwoSto w g1 (.slice none 0 0) [] g2 (.slice none 0 0) [] W3) := Lib.hid ⟨HS2.out.below hb3, by rw [← hg2]; exact HS3.out, by have := HS2.out.lt; omega, fun k hk => by simp [Value.ownBlock] at hk⟩
  rw [hg2]
  have HBX3 := Lib.hid (HBX2.out.below hb3 HBX2.out.lt)
  have HK3 := Lib.hid (HK2.out.below (hb3.mono HB2.out.size))
  clear hW3 HS3 HS2 hg2 hb3 HBX2 HK2 HB2
  have z0 := HBX3.out.cell 0
  have z1 := HBX3.out.cell 1
  simp only [List.getElem?_cons_zero, List.getElem?_cons_succ] at z0 z1
  rw [HKB.out] at z0 z1
  have hmf : ∀ (fn : Fn) (first cap : Array Value) (w : World), (Instr.makeFunc fn first cap).run Try.prog w = .ok (.func fn first cap) w := fun _ _ _ _ => rfl
  have HFI := Lib.hid (fill_any k w g1 (.slice none 0 0) W3 HT3.out.a HK3.out)
  unfold KStore.val at HFI
  go_wp2_with fail
  (with_reducible refine HFI.out.mono ?_); rintro e W4 ⟨v1, rfl, hS4, hT4, hw4⟩
  have HT4 := Lib.hid (HT3.out.putA hS4 hT4 hw4)
  clear hS4 hT4 hw4 HT3 HFI HK3 HBX3 z0 z1 hmf
  have HFS := Lib.hid (fill_sets k)
  generalize fillF k = D1 at *
  go_wp2_with fail
  go_loopg [38] 35 (fun gg x38 wr => ∃ (i : Nat) (v2 : Value) (D2 : List SK), i + gg = 35 ∧ x38 = .int .i64 i ∧ TwoSto w g1 v1 D1 g2 v2 D2 wr ∧ LimD D2 i)
  case atStart => exact ⟨0, _, [], by omega, rfl, HT4.out, ⟨rfl, fun x hx => by simp at hx⟩⟩
  case round =>
    obtain ⟨i, v2, D2, hig, rfl, hT, hL⟩ := hrel
    have HT := Lib.hid hT; have HL := Lib.hid hL
    clear hT hL HT4
    cases gk with
    | succ gg =>
      have hi35 : i < 35 := by omega
      obtain ⟨HEv, HLv⟩ := HL.out.put HT.out.b.dok hi35 0
      have HE := Lib.hid HEv; have HLN := Lib.hid HLv
      obtain ⟨cb, hcb⟩ : ∃ c, UInt8.ofNat (65 + i) = c := ⟨_, rfl⟩
      have HLS : Hid (lset i = [(⟨#[110]⟩, ⟨#[cb]⟩)]) := Lib.hid (by unfold lset; rw [hcb])
      have hcv := fun (V : World) => conv_z V cb (65 + (i : Int)) (by rw [← hcb, UInt8.toNat_ofNat']; omega)
      obtain ⟨WA, hWA⟩ : ∃ V, wr.alloc (.cells #[.int .u8 (65 + (i : Int))] 5) = V := ⟨_, rfl⟩
      have hba : Below wr.heap.size wr WA := by rw [← hWA]; exact (Below.refl _ _).alloc (Nat.le_refl _) _
      have hbb : Below WA.heap.size WA (WA.alloc (.cells #[.string ⟨#[110]⟩, .string ⟨#[cb]⟩] 25)) := (Below.refl _ _).alloc (Nat.le_refl _) _
      have HTB := Lib.hid ((HT.out.below hba).below hbb)
      have HPU := Lib.hid (HTB.out.b.put (some ⟨WA.heap.size, 0, none⟩) 1 1 (lset i) i 0 (by rw [HLS.out]; exact (Blk.mk (heap_alloc_new WA (.cells #[.string ⟨#[110]⟩, .string ⟨#[cb]⟩] 25)) : Blk _ WA.heap.size 25 [.string ⟨#[110]⟩, .string ⟨#[cb]⟩]).sees rfl (List.prefix_refl _)) (by omega))
      rw [HE.out] at HPU
      rw [← hWA, show (wr.alloc (.cells #[.int .u8 (65 + (i : Int))] 5)).heap.size = wr.heap.size + 1 by simp] at HPU
      rw [← hWA] at HTB
      clear hcb hWA hba hbb HEv HLv HE HL
      by_cases h32 : 32 ≤ i
      · rw [if_pos h32] at HPU
        have h32i : (32 : Int) ≤ i := by omega
        go_wp2_with fail
        (with_reducible refine HPU.out.mono ?_); rintro e W5 ⟨v3, rfl, hS5, hT5, hw5⟩
        have HT5 := Lib.hid (HTB.out.putB hS5 hT5 hw5)
        clear hS5 hT5 hw5 HTB HPU HT hcv
        go_wp2_with fail
        go_roundg gg
        case measure => omega
        case rel => exact ⟨i + 1, v3, _, by omega, by go_num, HT5.out, HLN.out⟩
      · rw [if_neg h32] at HPU
        have h32i : ¬ (32 : Int) ≤ i := by omega
        go_wp2_with fail
        (with_reducible refine HPU.out.mono ?_); rintro e W5 ⟨v3, rfl, hS5, hT5, hw5⟩
        have HT5 := Lib.hid (HTB.out.putB hS5 hT5 hw5)
        clear hS5 hT5 hw5 HTB HPU HT hcv
        go_wp2_with fail
        go_roundg gg
        case measure => omega
        case rel => exact ⟨i + 1, v3, _, by omega, by go_num, HT5.out, HLN.out⟩
    | zero =>
      obtain rfl : i = 35 := by omega
      have HD2 : Hid (D2.length = 32) := Lib.hid HL.out.1
      have hD1 := HT.out.a.dok.len
      go_wp2_with fail
      (with_reducible refine (within_any t 0 260 _ wt (by omega) (by omega) (by omega)).mono ?_); rintro e w' ⟨rfl, rfl⟩
      have htb := nWithin_in t (lo := 0) (hi := 260) (by omega)
      go_wp2_with fail
      (with_reducible refine (within_any look 1 40 _ wl (by omega) (by omega) (by omega)).mono ?_); rintro e w' ⟨rfl, rfl⟩
      have hlb := nWithin_in look (lo := 1) (hi := 40) (by omega)
      obtain ⟨j, hj⟩ : ∃ j : Nat, min (value.size : Int) 4 = (j : Int) := ⟨min value.size 4, by omega⟩
      have hjs : j ≤ value.size := by omega
      generalize nWithin t 0 260 = tt at *
      generalize nWithin look 1 40 = lk at *
      go_upto_region 16 with fail
      generalize value.extract 0 j = vx at *
      have HT0 := Lib.hid (Below.refl wr.heap.size wr)
      have HTW := Lib.hid (pickS_two D1 tt lk name vx)
      have HNO := Lib.hid (pickS_none (t := tt) (look := lk) (nm := ⟨#[110, 97, 109, 101]⟩) (vl := ⟨#[110, 111, 98, 111, 100, 121]⟩) (fun x hx e => by
        obtain ⟨q, i, e2⟩ := HFS.out x hx
        rw [e2, fSet_name] at e
        have := congrArg ByteArray.size e
        simp [ByteArray.size] at this))
      have HMO := Lib.hid (pickS_more D1 tt lk (lk + 40) (by omega))
      have hl1 := pickS_len D1 tt lk []
      have hl5 := pickS_len D1 tt (lk + 40) []
      have hl2 := pickS_len D1 tt lk [(name, vx, 1)]
      have hl3 := pickS_len D1 tt lk [(name, vx, 2)]
      obtain ⟨n1, hn1⟩ : ∃ n, (pickS D1 tt lk []).length = n := ⟨_, rfl⟩
      obtain ⟨n2, hn2⟩ : ∃ n, (pickS D1 tt lk [(name, vx, 1)]).length = n := ⟨_, rfl⟩
      obtain ⟨n3, hn3⟩ : ∃ n, (pickS D1 tt lk [(name, vx, 2)]).length = n := ⟨_, rfl⟩
      obtain ⟨n5, hn5⟩ : ∃ n, (pickS D1 tt (lk + 40) []).length = n := ⟨_, rfl⟩
      rw [hn1] at HTW HMO hl1
      rw [hn2, hn3] at HTW
      rw [hn5] at HMO hl5
      rw [hn2] at hl2; rw [hn3] at hl3
      have HN1 := Lib.hid hn1; have HN2 := Lib.hid hn2; have HN3 := Lib.hid hn3; have HN5 := Lib.hid hn5
      clear hn1 hn2 hn3 hn5 HL hig
      go_wp2_with fail
      (with_reducible refine (HT.out.a.pick tt lk none 0 0 [] Sees.nil (by omega) (by omega) (by omega)).mono ?_)
      intro e W5 hp5
      obtain ⟨A5, c5, rfl, hb5⟩ := hp5.len
      rw [HN1.out]
      have HT5 := Lib.hid (HT.out.below hb5)
      have HT6 := Lib.hid (HT5.out.below ((Below.refl _ W5).alloc (Nat.le_refl _) (.cells #[.string name, .string vx, .int .i64 1] 54)))
      clear hp5 hb5 HT HN1
      go_wp2_with fail
      (with_reducible refine (HT6.out.a.pick tt lk _ 1 1 [(name, vx, 1)] (mtc_one name vx 1) (by omega) (by omega) (by omega)).mono ?_)
      intro e W7 hp7
      obtain ⟨A7, c7, rfl, hb7⟩ := hp7.len
      rw [HN2.out]
      have HT7 := Lib.hid (HT6.out.below hb7)
      have HT8 := Lib.hid (HT7.out.below ((Below.refl _ W7).alloc (Nat.le_refl _) (.cells #[.string name, .string vx, .int .i64 2] 54)))
      clear hp7 hb7 HT5 HT6 HN2
      go_wp2_with fail
      (with_reducible refine (HT8.out.a.pick tt lk _ 1 1 [(name, vx, 2)] (mtc_one name vx 2) (by omega) (by omega) (by omega)).mono ?_)
      intro e W9 hp9
      obtain ⟨A9, c9, rfl, hb9⟩ := hp9.len
      rw [HN3.out]
      have HT9 := Lib.hid (HT8.out.below hb9)
      have HTA := Lib.hid (HT9.out.below ((Below.refl _ W9).alloc (Nat.le_refl _) (.cells #[.string ⟨#[110, 97, 109, 101]⟩, .string ⟨#[110, 111, 98, 111, 100, 121]⟩, .int .i64 1] 54)))
      clear hp9 hb9 HT7 HT8 HN3
      go_wp2_with fail
      (with_reducible refine (HTA.out.a.pick tt lk _ 1 1 [(⟨#[110, 97, 109, 101]⟩, ⟨#[110, 111, 98, 111, 100, 121]⟩, 1)] (mtc_one _ _ 1) (by omega) (by omega) (by omega)).mono ?_)
      intro e WB hpB
      obtain ⟨AB, cB, rfl, hbB⟩ := hpB.len
      rw [HNO.out]
      have HTB := Lib.hid (HTA.out.below hbB)
      clear hpB hbB HT9 HTA HNO
      go_wp2_with fail
      (with_reducible refine HTB.out.b.sets.mono ?_); rintro e WC ⟨AC, cC, rowsC, hrC, rfl, _, hbC, _, _⟩
      have hC : rowsC.length = 32 := by have := congrArg List.length hrC; simp only [setsOf, List.length_map] at this; rw [this, HD2.out]
      rw [hC]
      have HTC := Lib.hid (HTB.out.below hbC)
      have hsum : ((n2 : Int) + (n3 : Int) == (n1 : Int)) = true := by have := HTW.out; rw [beq_iff_eq]; omega
      have hge : (n1 : Int) ≤ n5 := by have := HMO.out; omega
      clear hbC hrC HTB
      go_wp2_with fail
      (with_reducible refine (HTC.out.a.pick tt (lk + 40) none 0 0 [] Sees.nil (by omega) (by omega) (by omega)).mono ?_)
      intro e WD hpD
      obtain ⟨AD, cD, rfl, hbD⟩ := hpD.len
      rw [HN5.out]
      have HTD := Lib.hid (HTC.out.below hbD)
      clear hpD hbD HTC HN5
      go_wp2_with fail
      (with_reducible refine (store_runs WD).mono ?_); rintro e WE ⟨rfl, hbE⟩
      have HBE := Lib.hid (HTD.out.below hbE).a.bel
      clear hbE HTD
      go_wp2_with fail
      go_ret
      exact ⟨rfl, HBE.out⟩
end Go.Proofs.Ythbinnbnmckmfaa
