/- block.Get. -/
import Derived.Test.YthnnbbhoelhmbaaBlockPut
import Derived.Test.YthnnbbhoelhmbaaBlockNext
import Derived.Test.YthnnbbhoelhmbaaBytesEq
import Derived.OwnWalk
namespace Go.Proofs.Ythnnbbhoelhmbaa
open Go.ChangeShapes Go.WideShapes Go.ChangeAt Go.RowKit
set_option linter.unusedVariables false
set_option maxRecDepth 100000
/-- Get's answer. -/
def GetAns (o : Option (List (Int × Int))) (w : World) (e : Ending) (w' : World) : Prop :=
  Below w.heap.size w w' ∧ match o with
    | none => e = .returned (.tuple #[.slice none 0 0, .int .i64 1])
    | some r => ∃ A c, e = .returned (.tuple #[.slice A r.length c, .int .i64 0]) ∧ w'.ownsRow w.heap.size 25 2 (.slice A r.length c) r.length (smps r) ∧ r.length ≤ c ∧ c ≤ 9223372036854775807
theorem getAns_no {o : Option (List (Int × Int))} {w w' : World} (h : o = none) (hb : Below w.heap.size w w') : GetAns o w (.returned (.tuple #[.slice none 0 0, .int .i64 1])) w' := by
  subst h; exact ⟨hb, rfl⟩
theorem getAns_yes {o : Option (List (Int × Int))} {r : List (Int × Int)} {n c : Nat} {A : Option Addr} {w w' : World} (h : o = some r) (hb : Below w.heap.size w w') (hn : r.length = n) (hown : w'.ownsRow w.heap.size 25 2 (.slice A n c) n (smps r)) :
    GetAns o w (.returned (.tuple #[.slice A n c, .int .i64 0])) w' := by
  subst h; subst hn
  obtain ⟨A', c', h1, h2, h3⟩ := own_slice hown
  injection h1 with h1 h4 h5
  subst h5
  exact ⟨hb, A, c, rfl, hown, h2, h3⟩
/-- The rows so far, and the box of the sample. -/
def GetAt (W : World) (bx : Nat) (r : List (Int × Int)) (t v : Int) (w : World) (val : Value) : Prop :=
  Blk w bx 25 [.int .i64 t, .int .i64 v] ∧ w.ownsRow W.heap.size 25 2 val r.length (smps r) ∧ Below W.heap.size W w ∧ val.ownBlock ≠ some bx ∧ W.heap.size ≤ bx
theorem GetAt.drewN {W w : World} {bx : Nat} {r : List (Int × Int)} {t v : Int} {val : Value} (h : GetAt W bx r t v w val) (n : Nat) : GetAt W bx r t v (w.drewN n) val :=
  ⟨h.1, h.2.1, below_drewN3 h.2.2.1 n, h.2.2.2.1, h.2.2.2.2⟩
theorem GetAt.alloc {W w : World} {bx : Nat} {r : List (Int × Int)} {t v : Int} {val : Value} (h : GetAt W bx r t v w val) (o : Obj) : GetAt W bx r t v (w.alloc o) val :=
  ⟨h.1.alloc o, h.2.1.alloc o, h.2.2.1.alloc h.2.2.1.size o, h.2.2.2.1, h.2.2.2.2⟩
theorem GetAt.set {W w : World} {bx : Nat} {r : List (Int × Int)} {t v : Int} {val : Value} (h : GetAt W bx r t v w val) (x y : Int) : GetAt W bx r x y ((w.setCell ⟨bx, 0, none⟩ (.int .i64 x)).setCell ⟨bx, 1, none⟩ (.int .i64 y)) val :=
  ⟨(h.1.set 0 (.int .i64 x)).set 1 (.int .i64 y), ownsRow_setCell_other (ownsRow_setCell_other h.2.1 (fun e => h.2.2.2.1 e) _) (fun e => h.2.2.2.1 e) _, (h.2.2.1.setCell h.2.2.2.2 _).setCell h.2.2.2.2 _, h.2.2.2.1, h.2.2.2.2⟩
theorem GetAt.push {W w w2 : World} {bx : Nat} {r : List (Int × Int)} {t v x y : Int} {val val' : Value} (h : GetAt W bx r t v w val)
    (hown : w2.ownsRow W.heap.size 25 2 val' (r.length + 1) (smps r ++ smps [(x, y)])) (hg : w.grownBy w2 val.ownBlock) (hw : Where w val val') : GetAt W bx (r ++ [(x, y)]) t v w2 val' :=
  ⟨h.1.grown hg (fun e => h.2.2.2.1 e.symm), by rw [smps_append, List.length_append]; exact hown, h.2.2.1.grown hg h.2.2.1.size (fun k hk => (h.2.1.lt k hk).1), where_ne hw h.1.lt h.2.2.2.1, h.2.2.2.2⟩
theorem next_parts (l : List Int) : (nextF l = none ∧ nextK l = 0 ∧ nextV l = 0) ∨ ∃ u k, nextF l = some (u, k) ∧ nextK l = k ∧ nextV l = zag u ∧ 1 ≤ k ∧ k ≤ l.length := by
  unfold nextK nextV
  cases h : nextF l with
  | none => exact .inl ⟨rfl, rfl, rfl⟩
  | some p => obtain ⟨u, k⟩ := p; have := next_used h; exact .inr ⟨u, k, rfl, rfl, rfl, this.1, this.2.2⟩
theorem num_byteL (l : List (Int × Int)) (t v gap : Int) : ∀ z ∈ bodyF t v gap l, 0 ≤ z ∧ z < 256 := by
  induction l generalizing t v gap with
  | nil => intro z hz; simp [bodyF] at hz
  | cons x l ih =>
    intro z hz
    rw [bodyF] at hz
    rcases List.mem_append.1 hz with hz | hz
    · rcases List.mem_append.1 hz with hz | hz
      · exact num_byte (I64_wrap _) z hz
      · exact num_byte (I64_wrap _) z hz
    · exact ih _ _ _ z hz
theorem putF_byte (l : List (Int × Int)) : ∀ z ∈ putF l, 0 ≤ z ∧ z < 256 := by
  intro z hz
  unfold putF at hz
  split at hz
  · rename_i h
    unfold held at h; simp at h
    unfold putB at hz
    rcases List.mem_append.1 hz with hz | hz
    · exact num_byte (by unfold I64; omega) z hz
    · exact num_byteL l 0 0 0 z hz
  · cases hz
/-- Behind k samples: what is still to come of getB. -/
def More (cn : Nat) (l : List Int) (k : Nat) (r : List (Int × Int)) (t v gap : Int) (ls : List Int) : Prop :=
  getB 0 0 0 cn l = (match getB t v gap (cn - k) ls with | none => none | some q => some (r ++ q))
theorem More.step {cn k : Nat} {l ls : List Int} {r : List (Int × Int)} {t v gap : Int} (h : More cn l k r t v gap ls) (hk : k < cn) {u1 k1 u2 k2 : Nat} (h1 : nextF ls = some (u1, k1)) (h2 : nextF (ls.drop k1) = some (u2, k2))
    {g2 t2 v2 : Int} (hg : wrap64 (gap + zag u1) = g2) (ht : wrap64 (t + g2) = t2) (hv : wrap64 (v + zag u2) = v2) : More cn l (k + 1) (r ++ [(t2, v2)]) t2 v2 g2 (ls.drop (k1 + k2)) := by
  unfold More at h ⊢
  rw [show cn - k = (cn - (k + 1)) + 1 by omega, getB, h1] at h
  simp only [h2, hg, ht, hv] at h
  rw [h]
  cases getB t2 v2 g2 (cn - (k + 1)) (ls.drop (k1 + k2)) with
  | none => rfl
  | some q => simp
theorem More.stop1 {cn k : Nat} {l ls : List Int} {r : List (Int × Int)} {t v gap : Int} (h : More cn l k r t v gap ls) (hk : k < cn) (h1 : nextF ls = none) : getB 0 0 0 cn l = none := by
  unfold More at h
  rw [show cn - k = (cn - (k + 1)) + 1 by omega, getB, h1] at h
  exact h
theorem More.stop2 {cn k : Nat} {l ls : List Int} {r : List (Int × Int)} {t v gap : Int} (h : More cn l k r t v gap ls) (hk : k < cn) {u1 k1 : Nat} (h1 : nextF ls = some (u1, k1)) (h2 : nextF (ls.drop k1) = none) : getB 0 0 0 cn l = none := by
  unfold More at h
  rw [show cn - k = (cn - (k + 1)) + 1 by omega, getB, h1] at h
  simp only [h2] at h
  exact h
theorem More.all {cn : Nat} {l ls : List Int} {r : List (Int × Int)} {t v gap : Int} (h : More cn l cn r t v gap ls) : getB 0 0 0 cn l = some r := by
  unfold More at h
  rw [Nat.sub_self, getB] at h
  simpa using h
set_option maxHeartbeats 8000000 in
theorem get_any (A : Option Addr) (n c : Nat) (l : List Int) (w : World) (h : Sees w w.heap.size 1 A n (u8s l)) (hn : n ≤ 100000) (hcc : n ≤ c) (hcd : c ≤ 9223372036854775807) (hb : ∀ z ∈ l, 0 ≤ z ∧ z < 256) :
    Calls Try.prog 9 #[.slice A n c] w (GetAns (getF l) w) := by
  have HL := Lib.hid h.u8_len
  have HBB := Lib.hid hb
  have HC0 := Lib.hid (next_any A n c _ l w h (by omega) hb)
  have H := Lib.hid h
  clear h hb
  obtain ⟨i0, hi, hz0, hz1, hz2⟩ := info_parts Try.infoSmp
  rcases next_parts l with ⟨hN, hK, hV⟩ | ⟨cc, i, hN, hK, hV, hi1, hi2⟩
  · have HG := Lib.hid (show getF l = none by unfold getF; rw [hN])
    rw [hK, hV] at HC0
    clear hN hK hV
    go_enter Try.func9, Try.ntmps9
    go_wp2_with fail
    refine HC0.out.mono ?_; rintro e w1 ⟨rfl, m, rfl⟩
    go_wp2_with fail
    refine bodyPost_ret (results_tmp2 rfl _ _ _) rfl ?_
    exact getAns_no HG.out (below_drewN3 (Below.refl _ _) _)
  · rw [hK, hV] at HC0
    have hui := next_lt hN
    have hib : (i == 0) = false := by simp; omega
    have hib2 : ((i : Int) == 0) = false := by simp; omega
    have hi3 : i ≤ n := by have := HL.out; omega
    by_cases hbad : zag cc < 0 ∨ 200 < zag cc
    · have HG := Lib.hid (show getF l = none by unfold getF; rw [hN]; simp only; rw [if_pos hbad])
      clear hN hK hV hui
      generalize zag cc = q at *
      rcases Int.lt_or_le q 0 with h1 | h1
      all_goals
        try (have h2 : 200 < q := by omega)
        clear hbad
        go_enter Try.func9, Try.ntmps9
        go_wp2_with fail
        refine HC0.out.mono ?_; rintro e w1 ⟨rfl, m, rfl⟩
        go_wp2_with fail
        refine bodyPost_ret (results_tmp2 rfl _ _ _) rfl ?_
        exact getAns_no HG.out (below_drewN3 (Below.refl _ _) _)
    · obtain ⟨cn, hcn⟩ := Int.eq_ofNat_of_zero_le (show 0 ≤ zag cc by omega)
      have HG : Hid (getF l = (match getB 0 0 0 cn (l.drop i) with | none => none | some r => if putF r = l then some r else none)) := Lib.hid (by
        unfold getF; rw [hN]; simp only; rw [if_neg hbad, hcn, Int.toNat_natCast]; rfl)
      have hcn200 : cn ≤ 200 := by omega
      rw [hcn] at HC0
      clear hN hK hV hui hbad hcn
      have hs0 := H.out.drop hi3 hcc
      rw [Nat.mul_one, u8s_drop] at hs0
      obtain ⟨X, hX⟩ : ∃ X, (if c = i then A else Option.map (fun x => x.add i) A) = X := ⟨_, rfl⟩
      rw [hX] at hs0
      have HS0 := Lib.hid hs0; clear hs0
      have hi0' : (0 : Int) ≤ i := by omega
      have hin' : (i : Int) ≤ n := by omega
      have hcn0 : (0 : Int) ≤ cn := by omega
      generalize hgo : getF l = go at *
      have HGO := Lib.hid hgo; clear hgo
      go_enter Try.func9, Try.ntmps9
      go_wp2_with fail
      refine HC0.out.mono ?_; rintro e w1 ⟨rfl, m, rfl⟩
      go_wp2_with (at_make; refine wpList_make_own _ rfl _ _ 26 rfl w.heap.size 25 i0 (.agg #[.int .i64 0, .int .i64 0]) 2 Try.underlying26 hi hz0 hz1 _ _ _ cn rfl rfl rfl (by rw [hz2]; omega) (by unfold maxLen; omega) (by simp) ?_)
      intro w2 hown2 hgr2
      clear hX
      have hb2 : Below w.heap.size w w2 := (below_drewN3 (Below.refl w.heap.size w) m).grown hgr2 (by simp) (by simp)
      have hsz2 := hb2.size
      have hblt : w.heap.size < w2.heap.size := (hown2.lt w.heap.size rfl).2
      have HGA := Lib.hid (show GetAt w w2.heap.size [] 0 0 (w2.alloc (.cells #[.int .i64 0, .int .i64 0] 25)) (.slice (some ⟨w.heap.size, 0, none⟩) 0 cn) from
        ⟨Blk.mk (heap_alloc_new w2 _), by simpa [smps] using hown2.alloc _, hb2.alloc hsz2 _, fun e => by have := (hown2.lt _ e).2; omega, hsz2⟩)
      have HS2 := Lib.hid (HS0.out.below (hb2))
      have HM0 := Lib.hid (show More cn (l.drop i) 0 [] 0 0 0 (l.drop i) by unfold More; rw [Nat.sub_zero]; cases getB 0 0 0 cn (l.drop i) <;> rfl)
      have HBD := Lib.hid (fun z (hz : z ∈ l.drop i) => HBB.out z (List.mem_of_mem_drop hz))
      clear hown2 hgr2 HC0 hblt
      have HBw2 := Lib.hid hb2; clear hb2
      obtain ⟨bx, hbx⟩ : ∃ bx, w2.heap.size = bx := ⟨_, rfl⟩
      rw [hbx] at HGA
      go_wp2_with fail
      go_loopg [6, 7, 9, 35] cn (fun g x6 x7 x9 x35 wr => ∃ (k m2 c2 : Nat) (X2 : Option Addr) (r : List (Int × Int)) (t v gap : Int) (ls : List Int), k + g = cn ∧ x35 = .int .i64 k ∧ x9 = .int .i64 gap ∧ x6 = .slice X2 m2 c2 ∧ GetAt w bx r t v wr x7 ∧ r.length = k ∧ Sees w w.heap.size 1 X2 m2 (u8s ls) ∧ m2 ≤ c2 ∧ c2 ≤ 9223372036854775807 ∧ (∀ z ∈ ls, 0 ≤ z ∧ z < 256) ∧ m2 ≤ 100000 ∧ More cn (l.drop i) k r t v gap ls)
      case atStart => exact ⟨0, _, _, X, [], 0, 0, 0, l.drop i, by omega, rfl, rfl, rfl, HGA.out, rfl, HS0.out, by omega, by omega, HBD.out, by omega, HM0.out⟩
      case round =>
        clear HGA HM0 HS2 HBD HS0 hi0' hin' hbx hsz2 HBw2
        obtain ⟨k, m2, c2, X2, r, t, v, gap, ls, hkg, rfl, rfl, rfl, hga, hrk, hsl, hmc, hc63, hbl, hm2, hmore⟩ := hrel
        have HGA := Lib.hid hga; have HRK := Lib.hid hrk; have HSL := Lib.hid hsl; have HBL := Lib.hid hbl; have HMO := Lib.hid hmore
        have hsz := hga.2.2.1.size
        have HLS := Lib.hid hsl.u8_len
        clear hga hrk hsl hbl hmore
        cases gk with
        | zero =>
          obtain rfl : k = cn := by omega
          have HAL := Lib.hid HMO.out.all
          obtain ⟨A7, c7, rfl, h71, h72⟩ := own_slice HGA.out.2.1
          rw [HRK.out] at h71 ⊢
          have hown7 := HGA.out.2.1
          rw [HRK.out] at hown7
          have HO7 := Lib.hid hown7; clear hown7
          have HCP := Lib.hid (put_any A7 k c7 _ r wr (Sees.of_own HO7.out) (Nat.le_refl _) (by omega))
          have HPB := Lib.hid (putF_byte r)
          by_cases hpf : putF r = l
          · have HR : Hid (go = some r) := Lib.hid (by rw [HG.out, HAL.out]; simp only; rw [if_pos hpf])
            have HD := Lib.hid (decide_eq_true hpf)
            clear hpf
            generalize putF r = pf at *
            go_wp2_with fail
            refine HCP.out.mono ?_; rintro e w3 ⟨A8, c8, rfl, hown8, hb8, h81, h82⟩
            have hs8 := hb8.size
            have HB3 := Lib.hid (HGA.out.2.2.1.trans (hb8.mono hsz))
            have HCE := Lib.hid (bytesEq_any A8 A pf.length c8 n c _ _ pf l w3 (Sees.of_own hown8) (H.out.below HB3.out) HPB.out HBB.out)
            rw [HD.out] at HCE
            have HO8 := Lib.hid (own_below HO7.out hb8 (Nat.le_refl _))
            clear hown8 hb8 HCP
            generalize pf.length = pn at *
            go_wp2_with fail
            refine HCE.out.mono ?_; rintro e w4 ⟨rfl, rfl⟩
            go_wp2_with fail
            refine bodyPost_ret (results_tmp2 rfl _ _ _) rfl ?_
            exact getAns_yes HR.out HB3.out HRK.out HO8.out
          · have HR : Hid (go = none) := Lib.hid (by rw [HG.out, HAL.out]; simp only; rw [if_neg hpf])
            have HD := Lib.hid (decide_eq_false hpf)
            clear hpf
            generalize putF r = pf at *
            go_wp2_with fail
            refine HCP.out.mono ?_; rintro e w3 ⟨A8, c8, rfl, hown8, hb8, h81, h82⟩
            have hs8 := hb8.size
            have HB3 := Lib.hid (HGA.out.2.2.1.trans (hb8.mono hsz))
            have HCE := Lib.hid (bytesEq_any A8 A pf.length c8 n c _ _ pf l w3 (Sees.of_own hown8) (H.out.below HB3.out) HPB.out HBB.out)
            rw [HD.out] at HCE
            clear hown8 hb8 HCP
            generalize pf.length = pn at *
            go_wp2_with fail
            refine HCE.out.mono ?_; rintro e w4 ⟨rfl, rfl⟩
            go_wp2_with fail
            refine bodyPost_ret (results_tmp2 rfl _ _ _) rfl ?_
            exact getAns_no HR.out HB3.out
        | succ g =>
          have hlt : k < cn := by omega
          have HC1 := Lib.hid (next_any X2 m2 c2 _ ls wr (HSL.out.below HGA.out.2.2.1) (by omega) HBL.out)
          rcases next_parts ls with ⟨hN, hK, hV⟩ | ⟨u1, k1, hN, hK, hV, hk1, hk2⟩
          · have HR : Hid (go = none) := Lib.hid (by rw [HG.out, HMO.out.stop1 hlt hN])
            have HC2 : Hid (∀ w' : World, Below w.heap.size w w' → Calls Try.prog 18 #[.slice X2 m2 c2] w' fun e w'' => e = .returned (.tuple #[.int .i64 0, .int .i64 0]) ∧ ∃ m, w'' = w'.drewN m) := Lib.hid fun w' hb => by
              have := next_any X2 m2 c2 _ ls w' (HSL.out.below hb) (by omega) HBL.out
              rw [hK, hV] at this; exact this
            rw [hK, hV] at HC1
            clear hN hK hV
            go_wp2_with fail
            refine HC1.out.mono ?_; rintro e w3 ⟨rfl, m3, rfl⟩
            have HB3 := Lib.hid (below_drewN3 HGA.out.2.2.1 m3)
            go_wp2_with fail
            refine (HC2.out _ HB3.out).mono ?_; rintro e w4 ⟨rfl, m4, rfl⟩
            have HB5 := Lib.hid (below_drewN3 HB3.out m4)
            go_wp2_with fail
            refine bodyPost_ret (results_tmp2 rfl _ _ _) rfl ?_
            exact getAns_no HR.out (by first | exact HB5.out | (have := HB5.out; rw [World.drewN_drewN] at this; exact this))
          · rw [hK, hV] at HC1
            have HN1 := Lib.hid hN
            have hk1n : k1 ≤ m2 := by have := HLS.out; omega
            have hs3 := HSL.out.drop hk1n hmc
            rw [Nat.mul_one, u8s_drop] at hs3
            obtain ⟨X3, hX3⟩ : ∃ X3, (if c2 = k1 then X2 else Option.map (fun x => x.add k1) X2) = X3 := ⟨_, rfl⟩
            rw [hX3] at hs3
            have HS3 := Lib.hid hs3; clear hs3 hN hK hV
            have hu0 : (0 : Int) ≤ k1 := by omega
            have hu1 : (k1 : Int) ≤ m2 := by omega
            have hkb : ((k1 : Int) == 0) = false := by simp; omega
            have HB3 := Lib.hid (HGA.out.2.2.1)
            have HC2 : Hid (∀ w' : World, Below w.heap.size w w' → Calls Try.prog 18 #[.slice X3 (m2 - k1) (c2 - k1)] w' fun e w'' => e = .returned (.tuple #[.int .i64 (nextV (ls.drop k1)), .int .i64 (nextK (ls.drop k1))]) ∧ ∃ m, w'' = w'.drewN m) := Lib.hid fun w' hb =>
              next_any X3 (m2 - k1) (c2 - k1) _ (ls.drop k1) w' (HS3.out.below hb) (by omega) (fun z hz => HBL.out z (List.mem_of_mem_drop hz))
            rcases next_parts (ls.drop k1) with ⟨hN, hK, hV⟩ | ⟨u2, k2, hN, hK, hV, hk3, hk4⟩
            · have HR : Hid (go = none) := Lib.hid (by rw [HG.out, HMO.out.stop2 hlt HN1.out hN])
              rw [hK, hV] at HC2
              clear hN hK hV
              generalize zag u1 = z1 at *
              go_wp2_with fail
              refine HC1.out.mono ?_; rintro e w3 ⟨rfl, m3, rfl⟩
              have HB4 := Lib.hid (below_drewN3 HB3.out m3)
              go_wp2_with fail
              refine (HC2.out _ HB4.out).mono ?_; rintro e w4 ⟨rfl, m4, rfl⟩
              have HB5 := Lib.hid (below_drewN3 HB4.out m4)
              go_wp2_with fail
              refine bodyPost_ret (results_tmp2 rfl _ _ _) rfl ?_
              exact getAns_no HR.out (by first | exact HB5.out | (have := HB5.out; rw [World.drewN_drewN] at this; exact this))
            · rw [hK, hV] at HC2
              have hk2n : k1 + k2 ≤ m2 := by rw [List.length_drop] at hk4; have := HLS.out; omega
              rw [if_neg (show ¬ c2 = k1 by omega)] at hX3
              obtain ⟨q, hq⟩ : ∃ q, k1 + k2 = q := ⟨_, rfl⟩
              have hs4 := HSL.out.drop (show q ≤ m2 by omega) hmc
              rw [Nat.mul_one, u8s_drop] at hs4
              obtain ⟨X4, hX4⟩ : ∃ X4, (if c2 = q then X2 else Option.map (fun x => x.add q) X2) = X4 := ⟨_, rfl⟩
              rw [hX4] at hs4
              have HS4 := Lib.hid hs4
              obtain ⟨g2, hg2⟩ : ∃ g2, wrap64 (gap + zag u1) = g2 := ⟨_, rfl⟩
              obtain ⟨t2, ht2⟩ : ∃ t2, wrap64 (t + g2) = t2 := ⟨_, rfl⟩
              obtain ⟨v2, hv2⟩ : ∃ v2, wrap64 (v + zag u2) = v2 := ⟨_, rfl⟩
              have HM2 := Lib.hid (HMO.out.step hlt HN1.out hN hg2 ht2 hv2)
              rw [hq] at HM2
              have hqi : (k1 : Int) + k2 = q := by omega
              have hqm : (q : Int) ≤ m2 := by omega
              have hq0 : (0 : Int) ≤ q := by omega
              have hq3 : q ≤ m2 := by omega
              have hkb2 : ((k2 : Int) == 0) = false := by simp; omega
              clear hs4 hN hK hV HN1 HMO
              generalize zag u1 = z1 at *
              generalize zag u2 = z2 at *
              go_wp2_with fail
              refine HC1.out.mono ?_; rintro e w3 ⟨rfl, m3, rfl⟩
              have HB4 := Lib.hid (below_drewN3 HB3.out m3)
              go_wp2_with fail
              refine (HC2.out _ HB4.out).mono ?_; rintro e w4 ⟨rfl, m4, rfl⟩
              have HG4 := Lib.hid ((HGA.out.drewN m3).drewN m4)
              have HSL4 := Lib.hid HS4.out
              clear HC1 HC2 HB3 HB4 HGA hX3 HS3 HS4 HSL
              obtain ⟨w5, hw5⟩ : ∃ w5 : World, (wr.drewN m3).drewN m4 = w5 := ⟨_, rfl⟩
              rw [hw5] at HG4 ⊢
              clear hw5
              have e0 : w5.cell? ⟨bx, 0, none⟩ = some (.int .i64 t) := HG4.out.1.cell 0
              have e1 : w5.cell? ⟨bx, 1, none⟩ = some (.int .i64 v) := HG4.out.1.cell 1
              have hfz := fun o => HG4.out.1.frozen o
              have hbl := HG4.out.1.lt
              have HG5 := Lib.hid (HG4.out.set t2 v2)
              have HG6 := Lib.hid (HG5.out.alloc (.cells #[.int .i64 t2, .int .i64 v2] 25))
              clear HG4 hsz
              obtain ⟨A7, c7, rfl, h71, h72⟩ := own_slice HG5.out.2.1
              clear h71 h72
              have HOW := HG6.out.2.1
              rw [HRK.out] at HOW ⊢
              have HOWH := Lib.hid HOW; clear HOW
              have HX := Lib.hid (show Sees (((w5.setCell ⟨bx, 0, none⟩ (.int .i64 t2)).setCell ⟨bx, 1, none⟩ (.int .i64 v2)).alloc (.cells #[.int .i64 t2, .int .i64 v2] 25)) (w5.heap.size + 1) 2 (some ⟨w5.heap.size, 0, none⟩) 1 (smps [(t2, v2)]) from by
                have h := (Blk.mk (heap_alloc_new ((w5.setCell ⟨bx, 0, none⟩ (.int .i64 t2)).setCell ⟨bx, 1, none⟩ (.int .i64 v2)) _) : Blk _ ((w5.setCell ⟨bx, 0, none⟩ (.int .i64 t2)).setCell ⟨bx, 1, none⟩ (.int .i64 v2)).heap.size 25 [.int .i64 t2, .int .i64 v2]).sees (size := 2) (n := 1) (xs := smps [(t2, v2)]) rfl (List.prefix_refl _)
                simpa using h)
              go_wp2_with (at_builtin; refine wpList_append_at rfl (.tmp 73) (.tmp 75) 26 rfl w.heap.size 25 i0 (.agg #[.int .i64 0, .int .i64 0]) 2 16 Try.underlying26 hi hz0 hz1 hz2 rfl (by decide) _ k (smps r) rfl HOWH.out _ _ 1 1 (smps [(t2, v2)]) rfl HX.out (smps_one _) (by unfold maxLen; omega) (by omega) (by have := HG6.out.2.2.1.size; simp at this ⊢; omega) ?_)
              intro v7 w7 hown7 hgr7 hwh7
              have HG7 := Lib.hid (HG6.out.push (val' := v7) (by rw [HRK.out]; exact hown7) (by rw [HRK.out]; exact hgr7) (by rw [HRK.out]; exact hwh7))
              have HRK2 := Lib.hid (show (r ++ [(t2, v2)]).length = k + 1 by rw [List.length_append, HRK.out]; rfl)
              clear hown7 hgr7 hwh7 HX HOWH HG6 HG5 e0 e1 hfz
              have HB7 := Lib.hid (fun z (hz : z ∈ ls.drop q) => HBL.out z (List.mem_of_mem_drop hz))
              go_wp2_with fail
              go_roundg g
              case measure => omega
              case rel => exact ⟨k + 1, _, _, X4, r ++ [(t2, v2)], t2, v2, g2, ls.drop q, by omega, by go_num, rfl, by first | rfl | (rw [hX4]), HG7.out, HRK2.out, HSL4.out, by omega, by omega, HB7.out, by omega, HM2.out⟩
end Go.Proofs.Ythnnbbhoelhmbaa
