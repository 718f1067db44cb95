/- klaxonlaw6.StoreChanges: the walk. -/
import Derived.Test.YthbinnbnmckmfaaStoChgMath
import Derived.Test.YthbinnbnmckmfaaBMap
import Derived.Test.YthbinnbnmckmfaaPoints
import Derived.Test.YthbinnbnmckmfaaStoRuns
namespace Go.Proofs.Ythbinnbnmckmfaa
open Go.ChangeShapes Go.WideShapes Go.ChangeAt Go.RowKit
set_option linter.unusedVariables false
set_option maxRecDepth 100000
theorem Try.infoMt : (Try.prog.info? 54).map (fun i => (i.zero, i.size, i.bytes)) = some (some (.agg #[.string ⟨#[]⟩, .string ⟨#[]⟩, .int .i64 0]), 3, 40) := by kernel_rfl
theorem BMap.kind {w : World} {b n : Nat} {f : Int → Bool} (h : BMap w b n f) : ∀ (cs : Array Value) (t : TypeId) (q : Nat × Nat), w.heap[b]? ≠ some (Obj.cells cs t q) := by
  obtain ⟨D, ⟨es, clock, h1, F, hs, hD⟩, h2⟩ := h
  intro cs t q e
  rw [h1] at e; cases e
theorem BMap.ne_own {w : World} {b n base : Nat} {f : Int → Bool} {e : TypeId} {s m : Nat} {u : Value} {xs : List Value} (h : BMap w b n f) (ho : w.ownsRow base e s u m xs) : u.ownBlock ≠ some b := fun hu => by
  obtain ⟨cs, q, e1⟩ := own_type ho hu
  exact h.kind _ _ _ e1
/-- While the times are noted. -/
structure ChAt (WM : World) (C : List Int) (v : Value) (i : Nat) (f : Int → Bool) (W : World) : Prop where
  bel : Below WM.heap.size WM W
  map : BMap W WM.heap.size i f
  row : W.ownsRow 0 3 1 v C.length (ints C)
theorem ChAt.below {WM W W' : World} {C : List Int} {v : Value} {i : Nat} {f : Int → Bool} (h : ChAt WM C v i f W) (hb : Below W.heap.size W W') : ChAt WM C v i f W' := ⟨h.bel.trans (hb.mono h.bel.size), h.map.below hb, own_below h.row hb (Nat.le_refl _)⟩
theorem ChAt.put {WM W W' : World} {C : List Int} {v : Value} {i : Nat} {f g : Int → Bool} (h : ChAt WM C v i f W) (hg : W.grownBy W' (some WM.heap.size)) (hm : BMap W' WM.heap.size (i + 1) g) : ChAt WM C v (i + 1) g W' :=
  ⟨h.bel.grown hg h.bel.size (fun q hq => by injection hq with hq; omega), hm, own_same h.row fun k hk hl => hg.block k hl (fun e => by injection e with e; exact h.map.ne_own h.row (by rw [hk, e]))⟩
set_option maxHeartbeats 8000000 in
theorem sto_changes (k : KStore) (look f0 t0 : Int) (A4 : Option Addr) (n4 c4 : Nat) (ms : List Mtc) (w : World) (hk : k.ok w.heap.size w) (wl : I64 look) (wf0 : I64 f0) (wt : I64 t0) (h4 : Sees w w.heap.size 3 A4 n4 (mtcs ms)) (hn4 : n4 ≤ c4) (hc4 : c4 ≤ 9223372036854775807) :
    Calls Try.prog 4 #[k.val, .int .i64 look, .int .i64 f0, .int .i64 t0, .slice A4 n4 c4] w fun e w' => e = .returned (.bool true) ∧ Below w.heap.size w w' := by
  obtain ⟨i0, hi0, hz0, hz1, hz2⟩ := info_parts Try.infoMt
  have hb1 : Below w.heap.size w (w.alloc (.cells #[.slice k.A k.qs.length k.c, .slice k.A2 k.rs.length k.c2] 45)) := (Below.refl _ _).alloc (Nat.le_refl _) _
  have hbox : Blk (w.alloc (.cells #[.slice k.A k.qs.length k.c, .slice k.A2 k.rs.length k.c2] 45)) w.heap.size 45 [.slice k.A k.qs.length k.c, .slice k.A2 k.rs.length k.c2] := Blk.mk (heap_alloc_new w _)
  obtain ⟨W1, hW1⟩ : ∃ V, w.alloc (.cells #[.slice k.A k.qs.length k.c, .slice k.A2 k.rs.length k.c2] 45) = V := ⟨_, rfl⟩
  rw [hW1] at hb1 hbox
  obtain ⟨kb, hkb⟩ : ∃ b, w.heap.size = b := ⟨_, rfl⟩
  have HK1 := Lib.hid (hk.below hb1)
  have HB1 := Lib.hid hb1; have HBX := Lib.hid hbox; have HKB := Lib.hid hkb; have HW1 := Lib.hid hW1
  obtain ⟨j4, hj4⟩ : ∃ j, min n4 3 = j := ⟨_, rfl⟩
  have HMS : Hid (Sees w w.heap.size 3 A4 j4 (mtcs (ms.take j4))) := Lib.hid (by have h := h4.take (k := j4) (by omega); rwa [mtcs_take] at h)
  clear hb1 hbox hW1 hkb hk h4
  unfold KStore.val
  go_enter Try.func4, Try.ntmps4
  go_wp2_with fail
  rw [HW1.out]
  try rw [HKB.out]
  (with_reducible refine (new_any W1).mono ?_); rintro e w1 ⟨rfl, rfl⟩
  have HS1 := Lib.hid (Sto.new HB1.out)
  obtain ⟨g1, hg1⟩ : ∃ g, W1.heap.size = g := ⟨_, rfl⟩
  obtain ⟨W2, hW2⟩ : ∃ V, W1.alloc (.cells #[.slice none 0 0] 63) = V := ⟨_, rfl⟩
  have hb2 : Below W1.heap.size W1 W2 := by rw [← hW2]; exact (Below.refl _ _).alloc (Nat.le_refl _) _
  rw [hW2] at HS1 ⊢
  have HS2 : Hid (Sto w g1 (.slice none 0 0) [] W2) := Lib.hid (by rw [← hg1]; exact HS1.out)
  rw [hg1]
  have HBX2 := Lib.hid (HBX.out.below hb2 HBX.out.lt)
  have HK2 := Lib.hid (HK1.out.below (hb2.mono HB1.out.size))
  clear hW2 HS1 hg1 hb2 HBX HK1 HB1
  have z0 := HBX2.out.cell 0
  have z1 := HBX2.out.cell 1
  simp only [List.getElem?_cons_zero, List.getElem?_cons_succ] at z0 z1
  rw [HKB.out] at z0 z1
  have hmf : ∀ (fn : Fn) (first cap : Array Value) (w : World), (Instr.makeFunc fn first cap).run Try.prog w = .ok (.func fn first cap) w := fun _ _ _ _ => rfl
  have HFI := Lib.hid (fill_any k w g1 (.slice none 0 0) W2 HS2.out HK2.out)
  unfold KStore.val at HFI
  go_wp2_with fail
  (with_reducible refine HFI.out.mono ?_); rintro e W4 ⟨v1, rfl, hS4, hT4, hw4⟩
  have HS4 := Lib.hid hS4
  clear hS4 hT4 hw4 HS2 HFI HK2 HBX2 z0 z1 hmf
  generalize fillF k = D1 at *
  have y1 : (j4 : Int) ≤ c4 := by omega
  have m1 : min (n4 : Int) 3 = (j4 : Int) := by omega
  have y3 : (0 : Int) ≤ j4 := by omega
  have hj3 : j4 ≤ 3 := by omega
  generalize ms.take j4 = own at *
  go_upto_region 4 with fail
  go_cut [12] (fun x12 wx => ∃ X cX, x12 = .slice X j4 cX ∧ wx.ownsRow 0 54 3 (.slice X j4 cX) j4 (mtcs own) ∧ Below W4.heap.size W4 wx)
  case first =>
    have hb5 : Below W4.heap.size W4 (W4.alloc (.cells #[] 54)) := (Below.refl _ _).alloc (Nat.le_refl _) _
    have HE5 : Hid (Blk (W4.alloc (.cells #[] 54)) W4.heap.size 54 []) := Lib.hid (Blk.mk (heap_alloc_new W4 _))
    have HOW : Hid ((W4.alloc (.cells #[] 54)).ownsRow W4.heap.size 54 3 (.slice (some ⟨W4.heap.size, 0, none⟩) 0 0) 0 []) := Lib.hid ⟨by simp, .inr ⟨W4.heap.size, 0, #[], rfl, Nat.le_refl _, HE5.out, Nat.le_refl _, by simp, by simp, by simp⟩⟩
    have HB5 := Lib.hid hb5
    have HS5 := Lib.hid (HMS.out.below (HS4.out.bel.trans (hb5.mono HS4.out.bel.size)))
    clear hb5
    go_wp2_with (at_builtin; refine wpList_append_at rfl (.tmp 31) (.tmp 36) 46 rfl W4.heap.size 54 i0 (.agg #[.string ⟨#[]⟩, .string ⟨#[]⟩, .int .i64 0]) 3 40 Try.underlying46 hi0 hz0 hz1 hz2 rfl (by decide) (.slice (some ⟨W4.heap.size, 0, none⟩) 0 0) 0 [] rfl HOW.out _ _ j4 c4 (mtcs own) rfl HS5.out (mtcs_one _) (by unfold maxLen; omega) (by omega) (by simp) ?_)
    intro v3 w3 hown3 hgr3 hwh3
    try simp only [Nat.zero_add, List.nil_append] at hown3
    obtain ⟨A6, c6, rfl, hc6, hd6⟩ := own_slice hown3
    have HO3 := Lib.hid (own_mono hown3 (Nat.zero_le _))
    have HB3 := Lib.hid (HB5.out.grown hgr3 (by simp) (fun b hb => by simp [Value.ownBlock] at hb; omega))
    clear hown3 hgr3 hwh3
    go_wp2_with fail
    go_meet
    exact ⟨A6, c6, rfl, HO3.out, HB3.out⟩
  case rest =>
    obtain ⟨X, cX, rfl, hO, hB⟩ := hcut
    have HO := Lib.hid hO
    have HS6 := Lib.hid (HS4.out.below hB)
    clear hO hB HS4 HMS
    have hlb := nWithin_in look (lo := 1) (hi := 40) (by omega)
    have hfb := nWithin_in f0 (lo := 0) (hi := 200) (by omega)
    have htb := nWithin_in t0 (lo := nWithin f0 0 200) (hi := 260) (by omega)
    have HW1 := Lib.hid (fun V => within_any look 1 40 V wl (by omega) (by omega) (by omega))
    have HW2 := Lib.hid (fun V => within_any f0 0 200 V wf0 (by omega) (by omega) (by omega))
    have HW3 := Lib.hid (fun V => within_any t0 (nWithin f0 0 200) 260 V wt (by omega) (by omega) (by omega))
    generalize nWithin t0 (nWithin f0 0 200) 260 = b at *
    generalize nWithin f0 0 200 = a at *
    generalize nWithin look 1 40 = lk at *
    go_wp2_with fail
    (with_reducible refine (HW1.out _).mono ?_); rintro e w' ⟨rfl, rfl⟩
    go_wp2_with fail
    (with_reducible refine (HW2.out _).mono ?_); rintro e w' ⟨rfl, rfl⟩
    go_wp2_with fail
    (with_reducible refine (HW3.out _).mono ?_); rintro e w' ⟨rfl, rfl⟩
    clear HW2 HW3
    have hmm := @run_makeMap Try.prog
    go_upto_region 10 with fail
    clear hmm
    have HBM := Lib.hid (BMap.made wc)
    have hbm : Below wc.heap.size wc (wc.alloc (.map #[] 0)) := (Below.refl _ _).alloc (Nat.le_refl _) _
    have HOV : Hid (∀ V, Below wc.heap.size wc V → V.ownsRow 0 54 3 (.slice X j4 cX) j4 (mtcs own)) := Lib.hid fun V hV => own_below HO.out hV (Nat.le_refl _)
    have HSV : Hid (∀ V, Below wc.heap.size wc V → Sto w g1 v1 D1 V) := Lib.hid fun V hV => HS6.out.below hV
    have HCH := Lib.hid ((HSV.out _ hbm).changes lk a b X j4 cX own (Sees.of_own (HOV.out _ hbm)) (by omega) (by omega))
    obtain ⟨hcm, hcp⟩ := chgS_ok D1 lk a b own
    have hcin := chgS_in (D := D1) (look := lk) (f := a) (t := b) (ms := own)
    have hclen := chgS_len D1 lk a b own HS6.out.dok
    have HPS : Hid (∀ z, z ∉ chgS D1 lk a b own → a ≤ z → z ≤ b → pickS D1 z lk own = pickS D1 (z - 1) lk own) := Lib.hid fun z h1 h2 h3 => pickS_same h1 h2 h3
    have HBM0 := Lib.hid hbm
    clear hcm hbm HO HS6
    obtain ⟨C, hC⟩ : ∃ C, chgS D1 lk a b own = C := ⟨_, rfl⟩
    rw [hC] at HCH hcp hcin hclen HPS
    have HCP := Lib.hid hcp; have HCIN := Lib.hid hcin
    clear hC hcp hcin
    go_wp2_with fail
    (with_reducible refine HCH.out.mono ?_); rintro e W7 ⟨A7, c7, rfl, hown7, hb7, hc7, hd7⟩
    have HC7 : Hid (ChAt wc C (.slice A7 C.length c7) 0 (fun _ => false) W7) := Lib.hid ⟨HBM0.out.trans (hb7.mono HBM0.out.size), HBM.out.below hb7, own_mono hown7 (Nat.zero_le _)⟩
    obtain ⟨nc, hnc⟩ : ∃ n, C.length = n := ⟨_, rfl⟩
    have HNC := Lib.hid hnc
    rw [hnc] at HC7 hclen hc7 ⊢
    clear hown7 hb7 HCH HBM HBM0 hnc
    obtain ⟨mb, hmb⟩ : ∃ m, wc.heap.size = m := ⟨_, rfl⟩
    have HMB := Lib.hid hmb
    try rw [hmb]
    clear hmb
    go_wp2_with fail
    go_loopg [17, 55] nc (fun gg x17 x55 wx => ∃ (i : Nat) (z : Int) (f : Int → Bool), i + gg = nc ∧ x55 = .int .i64 i ∧ x17 = .int .i64 z ∧ -1 ≤ z ∧ z ≤ 260 ∧ (∀ y ∈ C.drop i, z < y) ∧ (∀ y, f y = true ↔ y ∈ C.take i) ∧ ChAt wc C (.slice A7 nc c7) i f wx)
    case atStart => exact ⟨0, a - 1, fun _ => false, by omega, rfl, by go_num, by omega, by omega, fun y hy => by have := HCIN.out y (by simpa using hy); omega, fun y => by simp, HC7.out⟩
    case round =>
      obtain ⟨i, z, f, hig, rfl, rfl, hz1, hz2, hdr, hf, hch⟩ := hrel
      have HCA := Lib.hid hch; have HDR := Lib.hid hdr; have HF := Lib.hid hf
      clear hch hdr hf HC7
      cases gk with
      | succ gg =>
        have hin : i < nc := by omega
        have hil : i < C.length := by rw [HNC.out]; exact hin
        have hrow := HCA.out.row
        rw [HNC.out] at hrow
        obtain ⟨adc, hjl, hAc, d0⟩ := (Sees.of_own hrow).int hin
        clear hrow
        subst hAc
        have hzy := HDR.out C[i] (by rw [List.drop_eq_getElem_cons hil]; exact List.mem_cons_self)
        have hyb := HCIN.out C[i] (List.getElem_mem _)
        have HDN : Hid (∀ y ∈ C.drop (i + 1), C[i] < y) := Lib.hid fun y hy => by
          obtain ⟨q, hq, rfl⟩ := List.getElem_of_mem hy
          rw [List.getElem_drop]
          exact List.pairwise_iff_getElem.1 HCP.out i (i + 1 + q) hil (by rw [List.length_drop] at hq; omega) (by omega)
        have HTN : Hid (C.take (i + 1) = C.take i ++ [C[i]]) := Lib.hid (List.take_succ_eq_append_getElem hil)
        generalize C[i] = y at *
        have hy64 : I64 y := by unfold I64; omega
        obtain ⟨w8, hrun, hm8, hg8⟩ := HCA.out.map.put (by omega) hy64
        have HRUN := Lib.hid hrun
        have HC8 := Lib.hid (HCA.out.put hg8 hm8)
        have HFN : Hid (∀ x, (x == y || f x) = true ↔ x ∈ C.take (i + 1)) := Lib.hid fun x => by
          rw [HTN.out, List.mem_append, List.mem_singleton, ← HF.out x]
          simp only [Bool.or_eq_true, beq_iff_eq]
          exact ⟨fun h => h.symm, fun h => h.symm⟩
        rw [HMB.out] at HRUN
        clear hrun hm8 hg8 HTN HDR HF
        have hle : ¬ y ≤ z := by omega
        have hgt : ¬ b < y := by omega
        go_wp2_with (at_mapUpdate; refine wpList_put_bmap rfl (.tmp 67) (.tmp 68) (.const (.bool true)) 49 rfl (.map (some mb)) (.int .i64 y) (.bool true) rfl rfl rfl w8 HRUN.out ?_)
        go_wp2_with fail
        go_roundg gg
        case measure => omega
        case rel => exact ⟨i + 1, y, _, by omega, by go_num, rfl, by omega, by omega, HDN.out, HFN.out, HC8.out⟩
      | zero =>
        obtain rfl : i = nc := by omega
        have HFC : Hid (∀ y, f y = true ↔ y ∈ C) := Lib.hid fun y => by rw [HF.out y, List.take_of_length_le (by rw [HNC.out]; exact Nat.le_refl _)]
        clear HDR HF
        obtain ⟨m2, hm2⟩ : ∃ m : Nat, (m : Int) = b + 1 - a := ⟨(b + 1 - a).toNat, by omega⟩
        go_wp2_with fail
        go_loopg [20] m2 (fun gg x20 wx => ∃ tt : Int, tt + gg = b + 1 ∧ x20 = .int .i64 tt ∧ a ≤ tt ∧ ChAt wc C (.slice A7 i c7) i f wx)
        case atStart => exact ⟨a, by omega, rfl, by omega, HCA.out⟩
        case round =>
          obtain ⟨tt, htg, rfl, hta, hch⟩ := hrel
          have HCB := Lib.hid hch
          clear hch HCA
          cases gk with
          | zero =>
            have hbt : ¬ tt ≤ b := by omega
            go_wp2_with fail
            (with_reducible refine (store_runs _).mono ?_); rintro e WE ⟨rfl, hbE⟩
            have HBE := Lib.hid ((HSV.out _ (HCB.out.below hbE).bel).bel)
            clear hbE HCB
            go_wp2_with fail
            go_ret
            exact ⟨rfl, HBE.out⟩
          | succ gg =>
            have hbt : tt ≤ b := by omega
            have hlk := HCB.out.map.look (t := tt) (by unfold I64; omega)
            rw [HMB.out] at hlk
            cases hft : f tt with
            | true =>
              rw [hft] at hlk
              clear hft
              go_wp2_with fail
              go_roundg gg
              case measure => omega
              case rel => exact ⟨tt + 1, by omega, by go_num, by omega, HCB.out⟩
            | false =>
              rw [hft] at hlk
              have HSA := Lib.hid (HPS.out tt (fun h => by rw [(HFC.out tt).2 h] at hft; cases hft) hta hbt)
              clear hft
              go_wp2_with fail
              (with_reducible refine ((HSV.out _ HCB.out.bel).pick tt lk X j4 cX own (Sees.of_own (HOV.out _ HCB.out.bel)) (by omega) (by omega) (by omega)).mono ?_)
              rintro e W9 ⟨A9, c9, r9, hr9, rfl, hp9, hb9, hc9, hd9⟩
              have HCC := Lib.hid (HCB.out.below hb9)
              have HP9 := Lib.hid hp9
              clear hb9 hp9 hlk
              go_wp2_with fail
              (with_reducible refine ((HSV.out _ HCC.out.bel).pick (tt - 1) lk X j4 cX own (Sees.of_own (HOV.out _ HCC.out.bel)) (by omega) (by omega) (by omega)).mono ?_)
              rintro e WA ⟨AA, cA, rA, hrA, rfl, hpA, hbA, hcA, hdA⟩
              have HCD := Lib.hid (HCC.out.below hbA)
              have HPT := Lib.hid (points_any _ _ A9 AA c9 cA r9 rA WA (HP9.out.below hbA) hpA)
              rw [hr9, hrA, HSA.out, decide_eq_true rfl] at HPT
              clear hbA hpA HP9 hr9 hrA HSA
              go_wp2_with fail
              (with_reducible refine HPT.out.mono ?_); rintro e WB ⟨rfl, hbB⟩
              have HCE := Lib.hid (HCD.out.below hbB)
              clear hbB HPT
              go_wp2_with fail
              go_roundg gg
              case measure => omega
              case rel => exact ⟨tt + 1, by omega, by go_num, by omega, HCE.out⟩
end Go.Proofs.Ythbinnbnmckmfaa
