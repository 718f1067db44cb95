/- klaxonlaw5.BlockOnly: the walk. -/
import Derived.Test.YthnnbbhoelhmbaaBlockLawMath
import Derived.Deep.CutBlock
namespace Go.Proofs.Ythnnbbhoelhmbaa
open Go.ChangeShapes Go.WideShapes Go.ChangeAt Go.RowKit
set_option linter.unusedVariables false
set_option maxRecDepth 100000
/-- A row of bytes, wherever. -/
def SomeBytes (W : World) (v : Value) (w : World) : Prop :=
  ∃ (A : Option Addr) (n c : Nat) (bs : List Int), v = .slice A n c ∧ Sees w w.heap.size 1 A n (u8s bs) ∧ n ≤ 30000 ∧ n ≤ c ∧ c ≤ 9223372036854775807 ∧ (∀ z ∈ bs, 0 ≤ z ∧ z < 256) ∧ Below W.heap.size W w
theorem u8_of {a : Int} (h : (Lit.int .u8 a).wf = true) : 0 ≤ a ∧ a < 256 := by
  simp [Lit.wf, IntKind.min, IntKind.max, IntKind.signed, IntKind.bits] at h; omega
theorem prefix_set {xs cs : List Value} (h : xs <+: cs) (i : Nat) (hi : i < xs.length) (u : Value) : xs.set i u <+: cs.set i u := by
  obtain ⟨t, rfl⟩ := h
  exact ⟨t, by rw [List.set_append_left _ _ hi]⟩
theorem u8s_set (l : List Int) (i : Nat) (z : Int) : (u8s l).set i (.int .u8 z) = u8s (l.set i z) := by unfold u8s; rw [List.map_set]
theorem putF_len20 (zs : List Int) : (putF (samplesOf 0 (zs.take 20))).length ≤ 20010 :=
  putF_len _ (by rw [samplesOf_length, List.length_take]; omega)
theorem getB_len {t v g : Int} {n : Nat} {l : List Int} {r : List (Int × Int)} (h : getB t v g n l = some r) : r.length ≤ n := by
  induction n generalizing t v g l r with
  | zero => simp [getB] at h; subst h; simp
  | succ n ih =>
    rw [getB] at h
    split at h
    · cases h
    · split at h
      · cases h
      · split at h
        · cases h
        · rename_i q hq
          injection h with h; subst h
          have := ih hq; simp; omega
set_option maxHeartbeats 8000000 in
theorem block_only (A B : Option Addr) (n c n2 c2 : Nat) (zs rs : List Int) (at_ x how : Int) (w : World) (ha : Sees w w.heap.size 1 A n (ints zs)) (hb : Sees w w.heap.size 1 B n2 (u8s rs)) (hza : ∀ z ∈ zs, I64 z) (hrs : ∀ z ∈ rs, 0 ≤ z ∧ z < 256)
    (hn : n ≤ 9223372036854775807) (hn2 : n2 ≤ 9223372036854775807) (hcc : n2 ≤ c2) (hcd : c2 ≤ 9223372036854775807) (wa : I64 at_) (wx : 0 ≤ x ∧ x < 256) (wh : I64 how) :
    Calls Try.prog 5 #[.slice A n c, .slice B n2 c2, .int .i64 at_, .int .u8 x, .int .i64 how] w fun e w' => e = .returned (.bool true) ∧ Below w.heap.size w w' := by
  have HS1 := Lib.hid (samples_any A n c zs (w.alloc (.cells #[] 5)) ((ha.alloc (Nat.le_refl _) _).more (by simp)) hza hn)
  have HL1 := Lib.hid (show (samplesOf 0 (zs.take 20)).length = min n 20 by rw [samplesOf_length, List.length_take, ha.int_len]; omega)
  have HPB := Lib.hid (show ∀ z ∈ putF (samplesOf 0 (zs.take 20)), 0 ≤ z ∧ z < 256 from putF_byte _)
  have HPL := Lib.hid (putF_len20 zs)
  have HP1 := Lib.hid (show 1 ≤ (putF (samplesOf 0 (zs.take 20))).length by rw [putF_of (held_samples zs)]; exact putB_pos _)
  have HRB := Lib.hid hb; have HRS := Lib.hid hrs
  have HWA := Lib.hid wa; have HWX := Lib.hid wx
  have HOE := Lib.hid (show (w.alloc (.cells #[] 5)).ownsRow w.heap.size 5 1 (.slice (some ⟨w.heap.size, 0, none⟩) 0 0) 0 [] from World.ownsRow_made w #[] 0 (Nat.le_refl _) (by unfold maxLen; omega) rfl)
  have HBE := Lib.hid ((Below.refl w.heap.size w).alloc (Nat.le_refl _) (.cells #[] 5))
  clear ha hb hza hrs wa wh
  obtain ⟨m1, hm1⟩ : ∃ m1, min n 20 = m1 := ⟨_, rfl⟩
  have hm1' : m1 ≤ 20 := by omega
  rw [hm1] at HS1 HL1
  clear hm1
  obtain ⟨i0, hi, hz0, hz1, hz2⟩ := info_parts Try.infoU8
  generalize samplesOf 0 (zs.take 20) = X at *
  go_enter Try.func5, Try.ntmps5
  go_wp2_with fail
  refine HS1.out.mono ?_; rintro e w1 ⟨A1, c1, rfl, hown1, hb1, h1, h2⟩
  have HB1 := Lib.hid (HBE.out.trans (hb1.mono (by simp)))
  have HO1 := Lib.hid (own_below HOE.out hb1 (Nat.le_refl _))
  have HC1 := Lib.hid (put_any A1 m1 c1 _ X w1 (Sees.of_own hown1) (Nat.le_refl _) (by omega))
  have hs1 := HB1.out.size
  clear hown1 hb1 HS1 HBE HOE h1 h2
  generalize putF X = P at *
  go_wp2_with fail
  refine HC1.out.mono ?_; rintro e w2 ⟨A2, c2', rfl, hown2, hb2, h1, h2⟩
  have HB2 := Lib.hid (HB1.out.trans (hb2.mono hs1))
  have HO2 := Lib.hid (own_below HO1.out hb2 (Nat.le_refl _))
  have hs2 := HB2.out.size
  have HSP := Lib.hid (Sees.of_own hown2)
  clear hown2 hb2 HC1 HB1 HO1 h1 h2
  have hpl := HPL.out; have hp1 := HP1.out
  go_wp2_with (at_builtin; refine wpList_append_sees rfl (.tmp 16) (.tmp 19) 22 rfl w.heap.size 5 i0 (.int .u8 0) 1 1 Try.underlying22 hi hz0 hz1 hz2 rfl (by decide) _ 0 [] rfl HO2.out _ _ _ _ (u8s P) rfl HSP.out (u8s_one _) (by unfold maxLen; omega) (by omega) hs2 ?_)
  intro v3 w3 hown3 hg3
  try simp only [Nat.zero_add, List.nil_append] at hown3
  have HB3 := Lib.hid (HB2.out.grown hg3 hs2 (fun b hb => (HO2.out.lt b hb).1))
  have HO3 := Lib.hid hown3
  obtain ⟨A3, c3, rfl, h31, h32⟩ := own_slice hown3
  have hs3 := HB3.out.size
  clear hown3 hg3 HB2 HO2 HSP
  obtain ⟨p, hp⟩ : ∃ p, P.length = p + 1 := ⟨P.length - 1, by omega⟩
  rw [hp] at HO3 hpl h31 ⊢
  have HPP := Lib.hid hp; clear hp hp1 HPL HP1
  have hpi : ((p + 1 : Nat) : Int) - 1 = p := by omega
  obtain ⟨i, hi2⟩ : ∃ i : Nat, nWithin at_ 0 p = (i : Int) := ⟨(nWithin at_ 0 p).toNat, by have := nWithin_in at_ (lo := 0) (hi := (p : Int)) (by omega); omega⟩
  have hip : i ≤ p := by have := nWithin_in at_ (lo := 0) (hi := (p : Int)) (by omega); omega
  have HCW : Hid (∀ w, Calls Try.prog 19 #[.int .i64 at_, .int .i64 0, .int .i64 p] w fun e w' => e = .returned (.int .i64 i) ∧ w = w') := Lib.hid fun w => by
    have := within_any at_ 0 p w HWA.out (by omega) (by omega) (by omega)
    rw [hi2] at this; exact this
  clear hi2 hpi
  go_wp2_with fail
  refine (HCW.out _).mono ?_; rintro e w' ⟨rfl, rfl⟩
  have hp0 : ((p : Int) + 1 == 0) = false := by simp; omega
  obtain ⟨hr, hhr⟩ : ∃ hr, bits BinOp.and IntKind.i64 how 3 = hr := ⟨_, rfl⟩
  go_upto_block 0 with fail
  go_cut [11] (fun v wx => SomeBytes w v wx)
  case first =>
    clear HCW
    by_cases hr0 : hr = 0
    · have hb0 : (hr == 0) = true := by simp [hr0]
      have HR0 := Lib.hid hr0; clear hr0
      have hdone : SomeBytes w (.slice A3 (p + 1) c3) w3 → True := fun _ => trivial
      rcases HO3.out.2 with ⟨he, _⟩ | ⟨g, cap, cur, hv, hbg, hh, hnc, hcm, hcs, htake⟩
      · cases he
      · injection hv with hv1 hv2 hv3
        subst hv1; subst hv3
        have hK : Blk w3 g 5 cur.toList := by simpa [Blk] using hh
        have hpre : u8s P <+: cur.toList := by rw [← htake]; exact List.take_prefix _ _
        have hiP : i < P.length := by rw [HPP.out]; omega
        have hc : w3.cell? ⟨g, i, none⟩ = some (.int .u8 P[i]) := by
          rw [hK.cell]
          obtain ⟨t, ht⟩ := hpre
          rw [← ht, List.getElem?_append_left (by rw [u8s_length]; exact hiP), u8s_get _ _ hiP]
        have hz := HPB.out P[i] (List.getElem_mem _)
        have hfz := fun o => hK.frozen o
        have hglt := hK.lt
        obtain ⟨y, hy⟩ : ∃ y, bits BinOp.xor IntKind.u8 P[i] x = y := ⟨_, rfl⟩
        have hy2 : 0 ≤ y ∧ y < 256 := by
          have := u8_xor P[i] x hz.1 hz.2 HWX.out.1 HWX.out.2
          rw [hy] at this
          have h3 : P[i].toNat ^^^ x.toNat < 2 ^ 8 := Nat.xor_lt_two_pow (by omega) (by have := HWX.out; omega)
          omega
        have HSET := Lib.hid (hK.set i (.int .u8 y))
        have HPRE := Lib.hid (prefix_set hpre i (by rw [u8s_length]; exact hiP) (.int .u8 y))
        have HBS := Lib.hid (HB3.out.setCell (p := ⟨g, i, none⟩) (show w.heap.size ≤ g from hbg) (.int .u8 y))
        have HPBS := Lib.hid (show ∀ z ∈ P.set i y, 0 ≤ z ∧ z < 256 from fun z hz => by
          rcases List.mem_or_eq_of_mem_set hz with h | h
          · exact HPB.out z h
          · subst h; exact hy2)
        generalize P[i] = z at *
        clear hK hpre htake hh hcs hy2 hz HO3 hdone HB3
        go_wp2_with fail
        go_meet
        refine ⟨_, p + 1, c3, P.set i y, rfl, ?_, by omega, by omega, by omega, HPBS.out, by first | exact HBS.out | exact HBS.out.drew⟩
        have := HSET.out.sees (size := 1) (n := p + 1) (xs := (u8s P).set i (.int .u8 y)) (by rw [List.length_set, u8s_length, HPP.out]; omega) HPRE.out
        rw [u8s_set] at this
        exact this
    by_cases hr1 : hr = 1
    · have hb0 : (hr == 0) = false := by simp [hr1]
      have hb1 : (hr == 1) = true := by simp [hr1]
      have HR1 := Lib.hid hr1; clear hr1 hr0
      have hi1 : (0 : Int) ≤ i := by omega
      have hi2 : (i : Int) ≤ c3 := by omega
      have HT := Lib.hid ((Sees.of_own HO3.out).take (show i ≤ p + 1 by omega))
      go_wp2_with fail
      go_meet
      refine ⟨A3, i, c3, P.take i, rfl, ?_, by omega, by omega, by omega, fun z hz => HPB.out z (List.mem_of_mem_take hz), HB3.out⟩
      have := HT.out
      rw [Nat.mul_one, u8s_take] at this
      exact this
    by_cases hr2 : hr = 2
    · have hb0 : (hr == 0) = false := by simp [hr2]
      have hb1 : (hr == 1) = false := by simp [hr2]
      have hb2 : (hr == 2) = true := by simp [hr2]
      have HR2 := Lib.hid hr2; clear hr2 hr1 hr0
      obtain ⟨k, hk, hk1, hk2⟩ : ∃ k : Nat, min (n2 : Int) 10 = (k : Int) ∧ k ≤ n2 ∧ k ≤ 10 := ⟨min n2 10, by omega, by omega, by omega⟩
      have hT := (HRB.out.below HB3.out).take hk1
      rw [Nat.mul_one, u8s_take] at hT
      have HT := Lib.hid hT; clear hT
      have hk3 : (k : Int) ≤ c2 := by omega
      have hk4 : (0 : Int) ≤ k := by omega
      go_wp2_with (at_builtin; refine wpList_append_sees rfl (.tmp 60) (.tmp 65) 22 rfl w.heap.size 5 i0 (.int .u8 0) 1 1 Try.underlying22 hi hz0 hz1 hz2 rfl (by decide) _ (p + 1) (u8s P) rfl HO3.out _ B k _ (u8s (rs.take k)) rfl HT.out (u8s_one _) (by unfold maxLen; omega) (by omega) hs3 ?_)
      intro v4 w4 hown4 hg4
      have HB4 := Lib.hid (HB3.out.grown hg4 hs3 (fun b hb => (HO3.out.lt b hb).1))
      obtain ⟨A4, c4, rfl, h41, h42⟩ := own_slice hown4
      have HO4 := Lib.hid hown4
      clear hown4 hg4 HO3 HB3 HT hk
      go_wp2_with fail
      go_meet
      exact ⟨A4, _, c4, P ++ rs.take k, rfl, by rw [u8s_append]; exact Sees.of_own HO4.out, by omega, h41, h42, fun z hz => (List.mem_append.1 hz).elim (HPB.out z) (fun h => HRS.out z (List.mem_of_mem_take h)), HB4.out⟩
    · have hb0 : (hr == 0) = false := by simpa using hr0
      have hb1 : (hr == 1) = false := by simpa using hr1
      have hb2 : (hr == 2) = false := by simpa using hr2
      clear hr2 hr1 hr0
      have HOE := Lib.hid (show (w3.alloc (.cells #[] 5)).ownsRow w3.heap.size 5 1 (.slice (some ⟨w3.heap.size, 0, none⟩) 0 0) 0 [] from World.ownsRow_made w3 #[] 0 (Nat.le_refl _) (by unfold maxLen; omega) rfl)
      have HBE := Lib.hid (HB3.out.alloc hs3 (.cells #[] 5))
      have HRB3 := Lib.hid (HRB.out.below HBE.out)
      obtain ⟨k, hk, hk1, hk2⟩ : ∃ k : Nat, min (n2 : Int) 40 = (k : Int) ∧ k ≤ n2 ∧ k ≤ 40 := ⟨min n2 40, by omega, by omega, by omega⟩
      have hT := HRB3.out.take hk1
      rw [Nat.mul_one, u8s_take] at hT
      have HT := Lib.hid hT; clear hT
      have hk3 : (k : Int) ≤ c2 := by omega
      have hk4 : (0 : Int) ≤ k := by omega
      go_wp2_with (at_builtin; refine wpList_append_sees rfl (.tmp 27) (.tmp 32) 22 rfl w3.heap.size 5 i0 (.int .u8 0) 1 1 Try.underlying22 hi hz0 hz1 hz2 rfl (by decide) _ 0 [] rfl HOE.out _ B k _ (u8s (rs.take k)) rfl HT.out (u8s_one _) (by unfold maxLen; omega) (by omega) (by simp) ?_)
      intro v4 w4 hown4 hg4
      have HB4 := Lib.hid (HBE.out.grown hg4 HBE.out.size (fun b hb => Nat.le_trans hs3 (HOE.out.lt b hb).1))
      try simp only [Nat.zero_add, List.nil_append] at hown4
      obtain ⟨A4, c4, rfl, h41, h42⟩ := own_slice hown4
      have HO4 := Lib.hid hown4
      clear hown4 hg4 HO3 HB3 HOE HBE HRB3 HT hk
      go_wp2_with fail
      go_meet
      exact ⟨A4, _, c4, rs.take k, rfl, Sees.of_own HO4.out, by omega, h41, h42, fun z h => HRS.out z (List.mem_of_mem_take h), HB4.out⟩
  case rest =>
    clear HCW HO3 HB3 HPB HPP HRB HRS hs2 hs3
    obtain ⟨A5, n5, c5, bs, rfl, hs5, hn5, hnc5, hcd5, hbs, hb5⟩ := hcut
    have HS5 := Lib.hid hs5; have HBS := Lib.hid hbs; have HB5 := Lib.hid hb5
    have hsz5 := hb5.size
    clear hs5 hbs hb5 hhr hp0
    have HCR := Lib.hid (roomy_u8 A5 n5 c5 _ bs 7 wc HS5.out (Nat.le_refl _) (by omega))
    have HLB := Lib.hid HS5.out.u8_len
    go_wp2_with fail
    refine HCR.out.mono ?_; rintro e w6 ⟨rfl, hown6, hb6⟩
    have HB6 := Lib.hid (HB5.out.trans (hb6.mono hsz5))
    have hs6 := HB6.out.size
    have HSF := Lib.hid (Sees.of_own hown6)
    have HS6 := Lib.hid (HS5.out.below hb6)
    have hsT := (Sees.of_own hown6).take (show n5 ≤ n5 + 80 by omega)
    rw [Nat.mul_one, u8s_take, List.take_append_of_le_length (by rw [HLB.out]; exact Nat.le_refl _), List.take_of_length_le (by rw [HLB.out]; exact Nat.le_refl _)] at hsT
    have HG := Lib.hid (get_any (some ⟨wc.heap.size, 0, none⟩) n5 (n5 + 80) bs w6 hsT (by omega) (by omega) (by omega) HBS.out)
    have hgc := (hown6.lt wc.heap.size rfl).2
    clear hown6 hb6 hsT HCR HB5 HS5
    obtain ⟨G, hG⟩ : ∃ G, wc.heap.size = G := ⟨_, rfl⟩
    rw [hG] at HG HSF hgc HS6 ⊢
    have hn50 : (0 : Int) ≤ n5 := by omega
    have hn51 : (n5 : Int) ≤ (n5 : Int) + 80 := by omega
    rcases hgf : getF bs with _ | r
    · rw [hgf] at HG
      clear hgf
      go_wp2_with fail
      refine HG.out.mono ?_; rintro e w7 ⟨hb7, rfl⟩
      have HB7 := Lib.hid (HB6.out.trans (hb7.mono hs6))
      have HCI := Lib.hid (intact_u8 (some ⟨G, 0, none⟩) A5 (n5 + 80) (n5 + 80) n5 c5 _ _ _ bs 7 w7 (HSF.out.below hb7) (HS6.out.below (hb7.mono (by omega))) (by omega) (by omega) (by omega))
      rw [decide_eq_true (rfl : bs ++ List.replicate 80 7 = bs ++ List.replicate 80 7)] at HCI
      clear HG hb7 HB6 HSF HS6
      go_wp2_with fail
      refine HCI.out.mono ?_; rintro e w8 ⟨rfl, m8, hw8⟩
      have HB8 := Lib.hid (show Below w.heap.size w w8 by rw [hw8]; exact below_drewN3 HB7.out m8)
      clear hw8 HCI HB7
      have hs8 := HB8.out.size
      go_wp2_with fail
      refine (block_runs w8).mono ?_; rintro e w9 ⟨rfl, hb9⟩
      have HB9 := Lib.hid (HB8.out.trans (hb9.mono hs8))
      clear hb9 HB8
      go_wp2_with fail
      go_ret
      exact ⟨rfl, HB9.out⟩
    · rw [hgf] at HG
      have HPF := Lib.hid (getF_only hgf)
      have HRL := Lib.hid (show r.length ≤ 1000 by
        unfold getF at hgf
        split at hgf
        · cases hgf
        · split at hgf
          · cases hgf
          · split at hgf
            · cases hgf
            · rename_i hq
              split at hgf
              · injection hgf with hgf; subst hgf
                exact Nat.le_trans (getB_len ‹getB _ _ _ _ _ = some _›) (by omega)
              · cases hgf)
      clear hgf
      have hrl := HRL.out
      go_wp2_with fail
      refine HG.out.mono ?_; rintro e w7 ⟨hb7, A7, c7, rfl, hown7, h71, h72⟩
      have HB7 := Lib.hid (HB6.out.trans (hb7.mono hs6))
      have hs67 := hb7.size
      have HS7 := Lib.hid (HS6.out.below (hb7.mono (by omega)))
      have HSR := Lib.hid (Sees.of_own hown7)
      have HCI := Lib.hid (intact_u8 (some ⟨G, 0, none⟩) A5 (n5 + 80) (n5 + 80) n5 c5 _ _ _ bs 7 w7 (HSF.out.below hb7) HS7.out (by omega) (by omega) (by omega))
      rw [decide_eq_true (rfl : bs ++ List.replicate 80 7 = bs ++ List.replicate 80 7)] at HCI
      clear HG hb7 HB6 HSF HS6 hown7
      go_wp2_with fail
      refine HCI.out.mono ?_; rintro e w8 ⟨rfl, m8, hw8⟩
      have HB8 := Lib.hid (show Below w.heap.size w w8 by rw [hw8]; exact below_drewN3 HB7.out m8)
      have hw78 : w7.heap.size = w8.heap.size := by rw [hw8]; rfl
      have HP8 := Lib.hid (put_any A7 r.length c7 _ r w8 (by rw [hw8]; exact HSR.out.drewN m8) (by rw [hw78]; exact Nat.le_refl _) hrl)
      have HS8 := Lib.hid (show Sees w8 G 1 A5 n5 (u8s bs) by rw [hw8]; exact HS7.out.drewN m8)
      rw [HPF.out] at HP8
      have hs8 := HB8.out.size
      have hGw8 : G ≤ w8.heap.size := by omega
      clear hw8 HCI HB7 hw78 HSR HS7
      go_wp2_with fail
      refine HP8.out.mono ?_; rintro e w9 ⟨A9, c9, rfl, hown9, hb9, h91, h92⟩
      have HB9 := Lib.hid (HB8.out.trans (hb9.mono hs8))
      have HC9 := Lib.hid (same_u8 A9 A5 _ c9 n5 c5 _ _ bs bs w9 (Sees.of_own hown9) (HS8.out.below (hb9.mono hGw8)) (by rw [HLB.out]; omega) (by omega))
      rw [decide_eq_true (rfl : bs = bs)] at HC9
      clear hown9 hb9 HP8 HB8 HS8 h91
      generalize bs.length = bl at *
      go_wp2_with fail
      refine HC9.out.mono ?_; rintro e w10 ⟨rfl, m10, hw10⟩
      have HB10 := Lib.hid (show Below w.heap.size w w10 by rw [hw10]; exact below_drewN3 HB9.out m10)
      clear hw10 HC9 HB9
      have hs10 := HB10.out.size
      go_wp2_with fail
      refine (block_runs w10).mono ?_; rintro e w11 ⟨rfl, hb11⟩
      have HB11 := Lib.hid (HB10.out.trans (hb11.mono hs10))
      clear hb11 HB10
      go_wp2_with fail
      go_ret
      exact ⟨rfl, HB11.out⟩
end Go.Proofs.Ythnnbbhoelhmbaa
