/- Texts, merged in one. -/
import Derived.Test.YtlmakdclebbbkaaGreatBase31
import Derived.Test.YtlmakdclebbbkaaGreatBase27
import Derived.Test.YtlmakdclebbbkaaGreatBase6
import Derived.Test.YtlmakdclebbbkaaGreatBase12
import Derived.Test.YtlmakdclebbbkaaGreatBase11
import Derived.Test.YtlmakdclebbbkaaGreatBase10
import Derived.Test.YtlmakdclebbbkaaGreatRows
import Derived.Test.YtlmakdclebbbkaaGreatBase22
import Derived.Test.YtlmakdclebbbkaaGreatBase5
import Derived.Deep.CutBlock
import Derived.Deep.DeepCutAuto
import Derived.Test.YtlmakdclebbbkaaGreatBase3
import Derived.Test.YtlmakdclebbbkaaGreatShelf
import Derived.Test.YtlmakdclebbbkaaGreatBase
import Derived.Test.YtlmakdclebbbkaaGreatBase4
import Derived.Laws.IdiomStrings
import Derived.Laws.BytesArg
import Derived.Lib.PathFns
namespace Go.Proofs.YtlmakdclebbbkaaGreat
open Go.ChangeShapes Go.WideShapes Go.ChangeAt Go.RowKit
set_option linter.unusedVariables false
set_option linter.unusedSimpArgs false
set_option maxRecDepth 100000
theorem conv_m (w : World) (i : Nat) (c : UInt8) (hc : 109 + (i : Int) % 2 = c.toNat) : (convert 107 9 (.slice (some ⟨w.heap.size, 0, none⟩) 1 1)).run Tryz.prog (w.alloc (.cells #[.int .u8 (109 + (i : Int) % 2)] 5)) = .ok (.string ⟨#[c]⟩) (w.alloc (.cells #[.int .u8 (109 + (i : Int) % 2)] 5)) := by
  have hb : Blk (w.alloc (.cells #[.int .u8 (109 + (i : Int) % 2)] 5)) w.heap.size 5 [.int .u8 (109 + (i : Int) % 2)] := Blk.mk (heap_alloc_new w _)
  refine run_convert_bytes_back _ 107 9 5 ⟨w.heap.size, 0, none⟩ 1 [c] Tryz.underlying107 Tryz.underlying5 Tryz.underlying9 fun j hj => ?_
  have hj0 : j = 0 := by simpa using hj
  subst hj0
  rw [add_zero', hb.cell 0]
  simp only [List.getElem?_cons_zero, List.getElem_cons_zero, hc]
def SetV (l : List Lbl) (x : Value) (W : World) : Prop := ∃ A c, x = .slice A l.length c ∧ W.ownsRow 0 25 2 (.slice A l.length c) l.length (lbls l)
theorem SetV.below {l : List Lbl} {x : Value} {W W' : World} (h : SetV l x W) (hb : Below W.heap.size W W') : SetV l x W' := by
  obtain ⟨A, c, e, h⟩ := h; exact ⟨A, c, e, own_below h hb (Nat.le_refl _)⟩
theorem keyOfL_more {l : List Lbl} {j : Nat} (h : j < l.length) : keyOfL (l.take (j + 1)) = keyOfL (l.take j) ++ keyOne l[j] := by
  unfold keyOfL; rw [List.take_succ_eq_append_getElem h, List.flatMap_append]; simp
theorem FillAt.widen {k : KStore} {w0 W0 W : World} {g kb mb i : Nat} {v v' : Value} {M : List (List Lbl)} {D : List SK} (h : FillAt k w0 g v W0 kb mb i M D v' W) : FillAt k w0 g v W0 kb mb (i + 1) M D v' W := ⟨h.sto, h.turn, h.wh, h.box, h.met.widen (by omega), h.args, h.mbs, h.w0s⟩
theorem metF_cons (l : List Lbl) (M : List (List Lbl)) : metF (l :: M) = fun x => x == keyOfL l || metF M x := by
  funext x; unfold metF; rw [List.any_cons, BEq.comm]
def SetO (B : Nat) (l : List Lbl) (x : Value) (W : World) : Prop := ∃ A c, x = .slice A l.length c ∧ W.ownsRow B 25 2 (.slice A l.length c) l.length (lbls l)
def FillAns (k : KStore) (w0 : World) (g : Nat) (v : Value) (W : World) (e : Ending) (W' : World) : Prop := ∃ v', e = .returned (.bool true) ∧ Sto w0 g v' (fillF k) W' ∧ TurnS g v W W' ∧ Where W v v'
set_option maxHeartbeats 8000000 in
theorem fill_any (k : KStore) (w0 : World) (g : Nat) (v : Value) (W : World) (hS : Sto w0 g v [] W) (hk : k.ok w0.heap.size W) :
    Calls Tryz.prog 14 #[k.val, .func (.func 9) #[.pointer (some ⟨g, 0, none⟩)] #[]] W (FillAns k w0 g v W) := by
  obtain ⟨iL, hiL, hzL, hsL, hbL⟩ := info_parts Tryz.infoLabel
  have hn1 := hk.n1; have hn2 := hk.n2
  have h0s := hS.bel.size
  have hb1 : Below W.heap.size W (W.alloc (.cells #[.slice k.A k.qs.length k.c, .slice k.A2 k.rs.length k.c2] 51)) := (Below.refl _ _).alloc (Nat.le_refl _) _
  have hb2 : Below (W.alloc (.cells #[.slice k.A k.qs.length k.c, .slice k.A2 k.rs.length k.c2] 51)).heap.size (W.alloc (.cells #[.slice k.A k.qs.length k.c, .slice k.A2 k.rs.length k.c2] 51)) ((W.alloc (.cells #[.slice k.A k.qs.length k.c, .slice k.A2 k.rs.length k.c2] 51)).alloc (.map #[] 0)) := (Below.refl _ _).alloc (Nat.le_refl _) _
  have hbox : Blk (W.alloc (.cells #[.slice k.A k.qs.length k.c, .slice k.A2 k.rs.length k.c2] 51)) W.heap.size 51 [.slice k.A k.qs.length k.c, .slice k.A2 k.rs.length k.c2] := Blk.mk (heap_alloc_new W _)
  have hb12 : Below W.heap.size W ((W.alloc (.cells #[.slice k.A k.qs.length k.c, .slice k.A2 k.rs.length k.c2] 51)).alloc (.map #[] 0)) := hb1.trans (hb2.mono hb1.size)
  have HF0 : Hid (FillAt k w0 g v W W.heap.size (W.alloc (.cells #[.slice k.A k.qs.length k.c, .slice k.A2 k.rs.length k.c2] 51)).heap.size 0 [] [] v ((W.alloc (.cells #[.slice k.A k.qs.length k.c, .slice k.A2 k.rs.length k.c2] 51)).alloc (.map #[] 0))) := Lib.hid
    ⟨hS.below hb12, .of_below hb12, .inl rfl, hbox.below hb2 hbox.lt, SMap.made _, hk.below (hb12.mono h0s), by simp, h0s⟩
  obtain ⟨kb, hkb⟩ : ∃ b, W.heap.size = b := ⟨_, rfl⟩
  obtain ⟨W1, hW1⟩ : ∃ V, W.alloc (.cells #[.slice k.A k.qs.length k.c, .slice k.A2 k.rs.length k.c2] 51) = V := ⟨_, rfl⟩
  rw [hW1] at HF0
  have hmb : W1.heap.size = kb + 1 := by rw [← hW1, ← hkb]; simp
  obtain ⟨W2, hW2⟩ : ∃ V, W1.alloc (.map #[] 0) = V := ⟨_, rfl⟩
  rw [hW2, hmb, hkb] at HF0
  have HEQ := Lib.hid (And.intro hkb (And.intro hW1 (And.intro hmb hW2)))
  obtain ⟨m, hm⟩ : ∃ m, min k.qs.length 5 = m := ⟨_, rfl⟩
  have HM := Lib.hid hm
  have HNQ : Hid (∀ q, q < k.qs.length → True) := Lib.hid fun _ _ => trivial
  clear hb1 hb2 hbox hb12 hS hk hkb hW1 hmb hW2
  unfold KStore.val
  go_enter Tryz.func14, Tryz.ntmps14
  have hmm := @run_makeMap Tryz.prog
  go_wp2_with fail
  clear hmm
  try rw [HEQ.out.2.1]
  try rw [HEQ.out.2.2.1]
  try rw [HEQ.out.2.2.2]
  try rw [HEQ.out.1]
  clear HEQ
  go_loopg [6] m (fun gg x6 wr => ∃ (i : Nat) (v' : Value), i + gg = m ∧ x6 = .int .i64 i ∧ FillAt k w0 g v W kb (kb + 1) i (fillUp k i).1 (fillUp k i).2 v' wr)
  case atStart => exact ⟨0, v, by omega, rfl, HF0.out⟩
  case round =>
    obtain ⟨i, v', hig, rfl, hF⟩ := hrel
    have HF := Lib.hid hF
    have z0 := hF.box.cell 0
    have z1 := hF.box.cell 1
    simp only [List.getElem?_cons_zero, List.getElem?_cons_succ] at z0 z1
    clear hF HF0
    have HI := Lib.hid hig
    cases gk with
    | zero =>
      obtain rfl : i = m := by omega
      have HR : Hid (fillF k = (fillUp k i).2) := Lib.hid (by unfold fillF; rw [HM.out])
      by_cases h5 : i < k.qs.length
      · have h5' : i = 5 := by have := HM.out; omega
        have h5i : ¬ (i : Int) < 5 := by omega
        have h5j : (i : Int) < k.qs.length := by omega
        generalize k.qs.length = nq at *
        go_wp2_with fail
        go_ret
        exact ⟨v', rfl, by rw [HR.out]; exact HF.out.sto, HF.out.turn, HF.out.wh⟩
      · have h5j : ¬ (i : Int) < k.qs.length := by omega
        generalize k.qs.length = nq at *
        go_wp2_with fail
        go_ret
        exact ⟨v', rfl, by rw [HR.out]; exact HF.out.sto, HF.out.turn, HF.out.wh⟩
    | succ gg =>
      have hiq : i < k.qs.length := by have := HM.out; omega
      have hi5 : i < 5 := by have := HM.out; omega
      have h5i : (i : Int) < 5 := by omega
      have h5j : (i : Int) < k.qs.length := by omega
      obtain ⟨ad, hA, hadB, c0, c1, hok⟩ := HF.out.args.sets i hiq
      have hs0 := HF.out.sto.bel.size
      have HSO : Hid (setOf k i = fSet k.qs[i] i) := Lib.hid (by unfold setOf; rw [dif_pos hiq])
      have HQS : Hid (∀ V, w0.heap.size ≤ V.heap.size → k.qs[i].ok w0.heap.size V → Calls Tryz.prog 40 #[.agg #[.slice k.qs[i].A k.qs[i].n k.qs[i].c, .slice k.qs[i].A2 k.qs[i].n2 k.qs[i].c2]] V (OwnAns 25 2 (setF k.qs[i]).length (lbls (setF k.qs[i])) V)) := Lib.hid fun V hB h => keepset_any k.qs[i] w0.heap.size V h hB
      have hal : (ad.add (i * 2)).block < wr.heap.size := by rw [add_block]; omega
      have hLn := setF_len k.qs[i]
      have HQK := Lib.hid hok
      generalize k.qs[i] = q at *
      obtain ⟨nq, hnq⟩ : ∃ n, k.qs.length = n := ⟨_, rfl⟩
      have HNQ2 := Lib.hid hnq
      rw [hnq] at z0 h5j hn1
      have hkA := Lib.hid hA
      rw [hA] at z0
      clear hnq hok hiq hA HNQ
      go_upto_region 5 with fail
      go_cut [7] (fun x7 wx => SetO wr.heap.size (setF q) x7 wx ∧ Below wr.heap.size wr wx)
      case first =>
        have hb1 : Below wr.heap.size wr (wr.alloc (.cells #[] 25)) := (Below.refl _ _).alloc (Nat.le_refl _) _
        have HF1 := Lib.hid (HF.out.below hb1)
        have HE1 : Hid (Blk (wr.alloc (.cells #[] 25)) wr.heap.size 25 []) := Lib.hid (Blk.mk (heap_alloc_new wr _))
        have HQ1 := Lib.hid (HQS.out _ (by simp; omega) (HQK.out.below (hb1.mono hs0)))
        clear hb1
        have hkbl := HF.out.box.lt
        have HLR := Lib.hid hLn
        generalize setF q = l0 at *
        obtain ⟨n0, hn0⟩ : ∃ n, l0.length = n := ⟨_, rfl⟩
        have HN0 := Lib.hid hn0
        rw [hn0] at HQ1 hLn
        clear hn0
        go_wp2_with fail
        (with_reducible refine HQ1.out.mono ?_); rintro e w2 ⟨A5, c5, rfl, hown, hb, hq3, hq4⟩
        have HE2 := Lib.hid (HE1.out.below hb HE1.out.lt)
        have HS2 := Lib.hid (Sees.of_own hown)
        have HB2 := Lib.hid (show Below wr.heap.size wr w2 from ((Below.refl _ wr).alloc (Nat.le_refl _) (.cells #[] 25)).trans (hb.mono (by simp)))
        have hs2 := HE2.out.lt
        have HOW : Hid (w2.ownsRow wr.heap.size 25 2 (.slice (some ⟨wr.heap.size, 0, none⟩) 0 0) 0 []) := Lib.hid ⟨by simp, .inr ⟨wr.heap.size, 0, #[], rfl, Nat.le_refl _, HE2.out, Nat.le_refl _, by simp, by simp, by simp⟩⟩
        clear hown hb HQ1 HE1 HF1
        go_wp2_with (at_builtin; refine wpList_append_at rfl (.tmp 25) (.tmp 31) 26 rfl wr.heap.size 25 iL (.agg #[.string ⟨#[]⟩, .string ⟨#[]⟩]) 2 32 Tryz.underlying26 hiL hzL hsL hbL rfl (by decide) (.slice (some ⟨wr.heap.size, 0, none⟩) 0 0) 0 [] rfl HOW.out _ _ n0 c5 (lbls l0) rfl HS2.out (lbls_one _) (by unfold maxLen; omega) (by omega) (by omega) ?_)
        intro v3 w3 hown3 hgr3 hwh3
        try simp only [Nat.zero_add, List.nil_append] at hown3
        obtain ⟨A6, c6, rfl, hc6, hd6⟩ := own_slice hown3
        have HO3 := Lib.hid hown3
        have HB3 := Lib.hid (HB2.out.grown hgr3 (by omega) (fun b hb => by simp [Value.ownBlock] at hb; omega))
        clear hown3 hgr3 hwh3 HOW HE2 HS2 HB2 hs2
        have hs3 := HB3.out.size
        go_wp2_with fail
        go_meet
        exact ⟨⟨A6, c6, by rw [HN0.out], by rw [HN0.out]; exact HO3.out⟩, HB3.out⟩
      case rest =>
        obtain ⟨⟨A6, c6, rfl, hO⟩, hB⟩ := hcut
        have HO := Lib.hid hO; have HB := Lib.hid hB
        have hws := hB.size
        clear hO hB HQS HQK c0 c1 z0 z1
        obtain ⟨cb, hcb⟩ : ∃ c, UInt8.ofNat (109 + i % 2) = c := ⟨_, rfl⟩
        have HFN : Hid (fName i = (⟨#[110, 97, 109, 101]⟩, ⟨#[cb]⟩)) := Lib.hid (by unfold fName; rw [hcb])
        have hcv := fun (V : World) => conv_m V i cb (by rw [← hcb, UInt8.toNat_ofNat']; omega)
        clear hcb
        go_upto_region 6 with fail
        go_cut [7] (fun x7 wx => SetV (setOf k i) x7 wx ∧ FillAt k w0 g v W kb (kb + 1) i (fillUp k i).1 (fillUp k i).2 v' wx)
        case first =>
          have HFS : Hid (fSet q i = setF q ++ [fName i]) := Lib.hid rfl
          generalize setF q = l0 at *
          obtain ⟨n0, hn0⟩ : ∃ n, l0.length = n := ⟨_, rfl⟩
          have HN0 := Lib.hid hn0
          rw [hn0] at HO hLn ⊢
          clear hn0
          obtain ⟨W4, hW4⟩ : ∃ V, wc.alloc (.cells #[.int .u8 (109 + (i : Int) % 2)] 5) = V := ⟨_, rfl⟩
          have hs4 : W4.heap.size = wc.heap.size + 1 := by rw [← hW4]; simp
          have hb4 : Below wc.heap.size wc W4 := by rw [← hW4]; exact (Below.refl _ _).alloc (Nat.le_refl _) _
          have hb5 : Below W4.heap.size W4 (W4.alloc (.cells #[.string ⟨#[110, 97, 109, 101]⟩, .string ⟨#[cb]⟩] 25)) := (Below.refl _ _).alloc (Nat.le_refl _) _
          have hb6 := hb4.trans (hb5.mono hb4.size)
          have HO5 := Lib.hid (own_below HO.out hb6 (Nat.le_refl _))
          have HB5 := Lib.hid (HB.out.trans (hb6.mono hws))
          have HX5 := Lib.hid ((Blk.mk (heap_alloc_new W4 (.cells #[.string ⟨#[110, 97, 109, 101]⟩, .string ⟨#[cb]⟩] 25)) : Blk _ W4.heap.size 25 [.string ⟨#[110, 97, 109, 101]⟩, .string ⟨#[cb]⟩]).sees (size := 2) (n := 1) (xs := [.string ⟨#[110, 97, 109, 101]⟩, .string ⟨#[cb]⟩]) rfl (List.prefix_refl _))
          have hs5 := HB5.out.size
          rw [← hW4, show (wc.alloc (.cells #[.int .u8 (109 + (i : Int) % 2)] 5)).heap.size = wc.heap.size + 1 by simp] at HX5
          rw [← hW4] at HO5 HB5 hs5
          clear hb4 hb5 hb6 hs4 hW4
          go_wp2_with (at_builtin; refine wpList_append_at rfl (.tmp 33) (.tmp 41) 26 rfl wr.heap.size 25 iL (.agg #[.string ⟨#[]⟩, .string ⟨#[]⟩]) 2 32 Tryz.underlying26 hiL hzL hsL hbL rfl (by decide) (.slice A6 n0 c6) n0 (lbls l0) rfl HO5.out _ _ 1 1 [.string ⟨#[110, 97, 109, 101]⟩, .string ⟨#[cb]⟩] rfl HX5.out (by intro u hu; simp at hu; rcases hu with rfl | rfl <;> rfl) (by unfold maxLen; omega) (by omega) (by omega) ?_)
          intro v7 w7 hown7 hgr7 hwh7
          obtain ⟨A7, c7, rfl, hc7, hd7⟩ := own_slice hown7
          have hle : (l0 ++ [fName i]).length = n0 + 1 := by rw [List.length_append, HN0.out]; rfl
          have HV : Hid (SetV (setOf k i) (.slice A7 (n0 + 1) c7) w7) := Lib.hid (by
            rw [HSO.out, HFS.out]
            refine ⟨A7, c7, by rw [hle], ?_⟩
            rw [hle, lbls_append, HFN.out]
            exact own_mono hown7 (Nat.zero_le _))
          have HFW := Lib.hid (HF.out.below (HB5.out.grown hgr7 hs5 (fun b hb => (HO5.out.lt b hb).1)))
          clear hown7 hgr7 hwh7 HO5 HB5 HX5
          go_wp2_with fail
          go_meet
          exact ⟨HV.out, HFW.out⟩
        case rest =>
          obtain ⟨⟨A7, c7, rfl, hV⟩, hF2⟩ := hcut
          have HV := Lib.hid hV; have HF2 := Lib.hid hF2
          have HRS : Hid (rightS (setOf k i) = true) := Lib.hid (by rw [HSO.out]; exact fSet_right q i)
          have hle4 : (setOf k i).length ≤ 4 := by rw [HSO.out]; exact fSet_len q i
          have HFU : Hid (fillUp k (i + 1) = if metF (fillUp k i).1 (keyOfL (setOf k i)) || decide (k.rs.length ≤ i) then fillUp k i else (setOf k i :: (fillUp k i).1, putsD (fillUp k i).2 (setOf k i) (xsOf k i))) := Lib.hid rfl
          have HINV := Lib.hid (fillUp_inv k i)
          clear hV hF2 HO HB HFN HSO HF
          generalize setOf k i = l at *
          generalize fillUp k i = MD at *
          obtain ⟨M, D⟩ := MD
          simp only at HF2 HFU HINV
          obtain ⟨n, hn⟩ : ∃ n, l.length = n := ⟨_, rfl⟩
          have HN := Lib.hid hn
          rw [hn] at HV hle4 ⊢
          clear hn
          go_wp2_with fail
          go_loopg [8, 45] n (fun g2 x8 x45 wx => ∃ (j : Nat) (ks : ByteArray), j + g2 = n ∧ x45 = .int .i64 j ∧ x8 = .string ks ∧ ks.data.toList = keyOfL (l.take j) ∧ ks.size ≤ 50 * j ∧ FillAt k w0 g v W kb (kb + 1) i M D v' wx ∧ wx.ownsRow 0 25 2 (.slice A7 n c7) n (lbls l))
          case atStart => exact ⟨0, ⟨#[]⟩, by omega, rfl, rfl, by simp [keyOfL], by simp [ByteArray.size], HF2.out, HV.out⟩
          case round =>
            obtain ⟨j, ks, hjg, rfl, rfl, hks, hksz, hF3, hV3⟩ := hrel
            have HF3 := Lib.hid hF3; have HV3 := Lib.hid hV3; have HKS := Lib.hid hks
            clear hF3 hV3 hks
            cases gk with
            | succ g2 =>
              have hjn : j < n := by omega
              obtain ⟨adl, hjl, hAl, d0, d1⟩ := (Sees.of_own HV3.out).lbl hjn
              subst hAl
              have hsz := rightS_sizes HRS.out l[j] (List.getElem_mem _)
              have HMORE := Lib.hid (keyOfL_more hjl)
              generalize l[j] = p at *
              obtain ⟨pa, pb⟩ := p
              simp only at d0 d1 hsz
              have y1 : ¬ 9223372036854775807 < ks.size + pa.size := by omega
              have y2 : ¬ 9223372036854775807 < ks.size + pa.size + 1 := by omega
              have y3 : ¬ 9223372036854775807 < ks.size + pa.size + 1 + pb.size := by omega
              have y4 : ¬ 9223372036854775807 < ks.size + pa.size + 1 + pb.size + 1 := by omega
              have hall := World.block_lt_of_cell? _ _ d0
              have hbq : Below wr.heap.size wr (wr.alloc (.cells #[.string pa, .string pb] 25)) := (Below.refl _ _).alloc (Nat.le_refl _) _
              have HF4 := Lib.hid (HF3.out.below hbq)
              have HV4 := Lib.hid (own_below HV3.out hbq (Nat.le_refl _))
              have HSZ : Hid ((ks ++ pa ++ ⟨#[61]⟩ ++ pb ++ ⟨#[59]⟩ : ByteArray).size ≤ 50 * (j + 1)) := Lib.hid (by
                have e1 : (⟨#[61]⟩ : ByteArray).size = 1 := rfl
                have e2 : (⟨#[59]⟩ : ByteArray).size = 1 := rfl
                rw [ByteArray.size_append, ByteArray.size_append, ByteArray.size_append, ByteArray.size_append, e1, e2]; omega)
              have HTL : Hid ((ks ++ pa ++ ⟨#[61]⟩ ++ pb ++ ⟨#[59]⟩ : ByteArray).data.toList = keyOfL (l.take (j + 1))) := Lib.hid (by
                rw [HMORE.out, ← HKS.out]; simp [keyOne, ByteArray.data_append])
              clear hbq HF3 HV3 HMORE HKS
              go_wp2_with fail
              go_roundg g2
              case measure => omega
              case rel => exact ⟨j + 1, _, by omega, by go_num, rfl, HTL.out, HSZ.out, HF4.out, HV4.out⟩
            | zero =>
              obtain rfl : j = n := by omega
              have HKL : Hid (ks.data.toList = keyOfL l) := Lib.hid (by rw [HKS.out, List.take_of_length_le (by rw [HN.out]; exact Nat.le_refl _)])
              have hts : ks.size ≤ maxLen := by unfold maxLen; omega
              have hlk := HF3.out.met.look hts
              have z1 := HF3.out.box.cell 1
              simp only [List.getElem?_cons_zero, List.getElem?_cons_succ] at z1
              rw [HKL.out] at hlk
              have hkbl := HF3.out.box.lt
              clear HKS
              cases hmt : metF M (keyOfL l) with
              | true =>
                rw [hmt] at hlk HFU
                have HF5 := Lib.hid HF3.out.widen
                clear hmt
                go_wp2_with fail
                go_roundg gg
                case measure => omega
                case rel => exact ⟨i + 1, v', by omega, by go_num, by rw [HFU.out]; exact HF5.out⟩
              | false =>
                rw [hmt] at hlk HFU
                have HMT := Lib.hid hmt
                clear hmt
                obtain ⟨nr, hnr⟩ : ∃ n, k.rs.length = n := ⟨_, rfl⟩
                have HNR := Lib.hid hnr
                rw [hnr] at z1 HFU hn2
                by_cases hri : nr ≤ i
                · have hrii : (nr : Int) ≤ i := by omega
                  have HFU2 : Hid (fillUp k (i + 1) = (M, D)) := Lib.hid (by rw [HFU.out, decide_eq_true hri]; rfl)
                  have HF5 := Lib.hid HF3.out.widen
                  clear HFU hnr
                  go_wp2_with fail
                  go_roundg gg
                  case measure => omega
                  case rel => exact ⟨i + 1, v', by omega, by go_num, by rw [HFU2.out]; exact HF5.out⟩
                · have hrii : ¬ (nr : Int) ≤ i := by omega
                  have HFU2 : Hid (fillUp k (i + 1) = (l :: M, putsD D l (xsOf k i))) := Lib.hid (by rw [HFU.out, decide_eq_false hri]; rfl)
                  obtain ⟨w7, hrun, hm7, hg7⟩ := HF3.out.met.put (by omega) hts
                  rw [HKL.out, ← metF_cons] at hm7
                  have HRUN := Lib.hid hrun
                  have HV7 := Lib.hid (own_same HV3.out fun q hq hl => hg7.block q hl (fun e => by injection e with e; exact HF3.out.met.ne_own HV3.out (by rw [hq, e])))
                  have HF7 := Lib.hid (HF3.out.mapped (f := l :: M) hg7 hm7)
                  clear HFU hnr hrun hm7 hg7 HF3 HV3
                  go_upto_region 15 with (at_mapUpdate; refine wpList_put_smap rfl (.tmp 69) (.tmp 70) (.const (.bool true)) 103 rfl (.map (some (kb + 1))) (.string ks) (.bool true) rfl rfl rfl w7 HRUN.out ?_)
                  clear z1 hlk hcv
                  have hir : i < k.rs.length := by rw [HNR.out]; omega
                  obtain ⟨adr, hAr, hadR, e0, hsr, hzr, hnc1, hnc2⟩ := HF7.out.args.rows i hir
                  have z1 := HF7.out.box.cell 1
                  simp only [List.getElem?_cons_zero, List.getElem?_cons_succ] at z1
                  rw [HNR.out, hAr] at z1
                  have hs7 := HF7.out.sto.bel.size
                  have har : (adr.add i).block < w7.heap.size := by rw [add_block]; omega
                  have HXS : Hid (xsOf k i = samplesOf 0 (k.rs[i].zs.take 20)) := Lib.hid (by unfold xsOf; rw [dif_pos hir])
                  have hrl := hsr.int_len
                  have HSM := Lib.hid (samples_any k.rs[i].A k.rs[i].n k.rs[i].c k.rs[i].zs w7 (hsr.more hs7) hzr (by omega))
                  have HRI : Hid (Rises 0 240 (samplesOf 0 (k.rs[i].zs.take 20))) := Lib.hid (samplesOf_rises 0 _ 240 (by rw [List.length_take]; omega))
                  have hxl : (samplesOf 0 (k.rs[i].zs.take 20)).length = min k.rs[i].n 20 := by rw [samplesOf_length, List.length_take, hrl]; omega
                  obtain ⟨xq, hxq⟩ : ∃ x, min k.rs[i].n 20 = x := ⟨_, rfl⟩
                  have hx20 : xq ≤ 20 := by omega
                  rw [hxq] at HSM hxl
                  have hii : (i : Int) < nr := by omega
                  generalize samplesOf 0 (k.rs[i].zs.take 20) = xs at *
                  have HXL := Lib.hid hxl
                  have HPF := Lib.hid (puts_fresh (D := D) (l := l) (b := 240) (xs := xs) HRS.out (placeB_no HF7.out.sto.dok HRS.out (fun x hx e => by
                    have h1 := HINV.out.1 x hx
                    rw [e] at h1
                    have h2 : metF M (keyOfL l) = true := List.any_eq_true.2 ⟨l, h1, by simp⟩
                    rw [HMT.out] at h2; cases h2)) (by have := HINV.out.2.1; omega) HRI.out (by omega) (by omega))
                  generalize k.rs[i] = rr at *
                  clear hxl hxq hsr hzr hrl hri hir hrii hAr HINV HMT HRI HKL hts hksz
                  go_wp2_with fail
                  (with_reducible refine HSM.out.mono ?_); rintro e w8 ⟨A8, c8, rfl, hown8, hb8, hq8, hr8⟩
                  have HX8 := Lib.hid (own_mono hown8 (Nat.zero_le _))
                  have HF8 := Lib.hid (HF7.out.below hb8)
                  have HV8 := Lib.hid (own_below HV7.out hb8 (Nat.le_refl _))
                  clear hown8 hb8 HF7 HV7 HSM z1 e0
                  go_wp2_with fail
                  go_loopg [78] xq (fun g3 x78 wx => ∃ (j3 : Nat) (v3 : Value), j3 + g3 = xq ∧ x78 = .int .i64 j3 ∧ FillAt k w0 g v W kb (kb + 1) (i + 1) (l :: M) (putsD D l (xs.take j3)) v3 wx ∧ wx.ownsRow 0 25 2 (.slice A7 j c7) j (lbls l) ∧ wx.ownsRow 0 30 2 (.slice A8 xq c8) xq (smps xs))
                  case atStart => exact ⟨0, v', by omega, rfl, HF8.out, HV8.out, HX8.out⟩
                  case round =>
                    obtain ⟨j3, v3, hjg3, rfl, hF9, hV9, hX9⟩ := hrel
                    have HF9 := Lib.hid hF9; have HV9 := Lib.hid hV9; have HX9 := Lib.hid hX9
                    clear hF9 hV9 hX9
                    cases gk with
                    | zero =>
                      obtain rfl : j3 = xq := by omega
                      have HEND : Hid (FillAt k w0 g v W kb (kb + 1) (i + 1) (fillUp k (i + 1)).1 (fillUp k (i + 1)).2 v3 wr) := Lib.hid (by
                        have h := HF9.out
                        rw [List.take_of_length_le (by rw [HXL.out]; exact Nat.le_refl _)] at h
                        rw [HFU2.out, HXS.out]; exact h)
                      go_wp2_with fail
                      go_roundg gg
                      case measure => omega
                      case rel => exact ⟨i + 1, v3, by omega, by go_num, HEND.out⟩
                    | succ g3 =>
                      have hjx : j3 < xq := by omega
                      obtain ⟨adx, hjl, hAx, d0, d1⟩ := (Sees.of_own HX9.out).smp hjx
                      subst hAx
                      have hE := (HPF.out j3 (by rw [HXL.out]; omega)).2 hjl
                      have HNX : Hid (putsD D l (xs.take (j3 + 1)) = putS (putsD D l (xs.take j3)) l xs[j3]) := Lib.hid (by rw [List.take_succ_eq_append_getElem hjl, putsD_snoc])
                      generalize xs[j3] = p at *
                      obtain ⟨tm, vl⟩ := p
                      simp only at d0 d1
                      have hall := World.block_lt_of_cell? _ _ d0
                      have hbq : Below wr.heap.size wr (wr.alloc (.cells #[.int .i64 tm, .int .i64 vl] 30)) := (Below.refl _ _).alloc (Nat.le_refl _) _
                      have HFA := Lib.hid (HF9.out.below hbq)
                      have HVA := Lib.hid (own_below HV9.out hbq (Nat.le_refl _))
                      have HXA := Lib.hid (own_below HX9.out hbq (Nat.le_refl _))
                      have HPUT := Lib.hid (HFA.out.sto.put A7 j c7 l tm vl (Sees.of_own HVA.out) (by omega))
                      rw [hE] at HPUT
                      clear hbq HF9 HV9 HX9 hE
                      go_wp2_with fail
                      (with_reducible refine HPUT.out.mono ?_); rintro e wp ⟨v4, rfl, hS4, hT4, hw4⟩
                      have HFB := Lib.hid (HFA.out.put (D2 := putsD D l (xs.take (j3 + 1))) (by rw [HNX.out]; exact hS4) hT4 hw4)
                      have HVB := Lib.hid (HFA.out.sto.own hT4 HVA.out (by decide) (by decide))
                      have HXB := Lib.hid (HFA.out.sto.own hT4 HXA.out (by decide) (by decide))
                      clear hS4 hT4 hw4 HFA HVA HXA HPUT HNX
                      go_wp2_with fail
                      go_roundg g3
                      case measure => omega
                      case rel => exact ⟨j3 + 1, v4, by omega, by go_num, HFB.out, HVB.out, HXB.out⟩
end Go.Proofs.YtlmakdclebbbkaaGreat

namespace Go.Proofs.YtlmakdclebbbkaaGreat
open Go.ChangeShapes Go.WideShapes Go.ChangeAt Go.RowKit
set_option linter.unusedVariables false
set_option linter.unusedSimpArgs false
set_option maxRecDepth 100000
theorem sortP_mem {l : List Pt} {p : Pt} : p ∈ sortP l ↔ p ∈ l := sortK_mem _ l p
theorem sortP_len (l : List Pt) : (sortP l).length = l.length := sortK_length _ l
end Go.Proofs.YtlmakdclebbbkaaGreat

namespace Go.Proofs.YtlmakdclebbbkaaGreat
open Go.ChangeShapes Go.WideShapes Go.ChangeAt Go.RowKit
set_option linter.unusedVariables false
set_option maxRecDepth 100000
structure Tok where
  kd : Int
  n : Int
  at_ : Int
  tx : ByteArray
def Tok.val (t : Tok) : Value := .agg #[.int .i64 t.kd, .int .i64 t.n, .int .i64 t.at_, .string t.tx]
def set4W (w : World) (b : Nat) (v0 v1 v2 v3 : Value) : World := (((w.setCell ⟨b, 0, none⟩ v0).setCell ⟨b, 1, none⟩ v1).setCell ⟨b, 2, none⟩ v2).setCell ⟨b, 3, none⟩ v3
end Go.Proofs.YtlmakdclebbbkaaGreat

namespace Go.Proofs.YtlmakdclebbbkaaGreat
open Go.ChangeShapes Go.WideShapes Go.ChangeAt Go.RowKit
set_option linter.unusedVariables false
set_option linter.unusedSimpArgs false
set_option maxRecDepth 100000
def tcells (l : List Tok) : List Value := l.flatMap fun t => [.int .i64 t.kd, .int .i64 t.n, .int .i64 t.at_, .string t.tx]
theorem tcells_append (l m : List Tok) : tcells (l ++ m) = tcells l ++ tcells m := by simp [tcells]
theorem tcells_length (l : List Tok) : (tcells l).length = l.length * 4 := by
  induction l with
  | nil => rfl
  | cons x l ih => simp only [tcells, List.flatMap_cons, List.length_append, List.length_cons, List.length_nil] at ih ⊢; omega
end Go.Proofs.YtlmakdclebbbkaaGreat
