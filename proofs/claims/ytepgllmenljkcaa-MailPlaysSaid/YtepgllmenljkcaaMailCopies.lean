/- klaxonlaw19.MailCopies. -/
import Derived.Test.YtepgllmenljkcaaMailRuns
namespace Go.Proofs.Ytepgllmenljkcaa
open Go.ChangeShapes Go.WideShapes Go.ChangeAt Go.RowKit
set_option linter.unusedVariables false
set_option linter.unusedSimpArgs false
set_option maxRecDepth 100000
/-- A call on another box. -/
theorem BAt.other {b c b' c' cap : Nat} {d : Int} {l : List NV} {w w' : World} (h : BAt b c cap d l w) (hn : NotBC w b' c') (hm : MWr b' c' w w') (hb : b ≠ b') (hc : c ≠ c') : BAt b c cap d l w' := by
  obtain ⟨s, r, hch⟩ := h.ch
  have hb2 : b ≠ c' := fun e => by
    obtain ⟨_, cap2, buf, s2, r2, h2⟩ := hn
    have := h.box.eq
    rw [e, h2] at this
    cases this
  have hc2 : c ≠ b' := fun e => by
    obtain ⟨⟨cs, h2⟩, _⟩ := hn
    have := h2.eq
    rw [← e, hch] at this
    cases this
  exact ⟨(hm.block b h.box.lt hb hb2).trans h.box, ⟨s, r, (hm.block c h.clt hc2 hc).trans hch⟩, h.few, fun x hx => (h.notes x hx).mwr hn hm⟩
/-- A row of texts is written, and no note's alerts lie there. -/
theorem BAt.str {b c cap g : Nat} {d : Int} {l : List NV} {w w' : World} {cs : List Value} (h : BAt b c cap d l w) (hk : Blk w g 9 cs) (hne : ∀ x ∈ l, ∀ ad, x.A = some ad → 0 < x.al.length → ad.block ≠ g) (ho : w.grownBy w' (some g)) : BAt b c cap d l w' := by
  obtain ⟨s, r, hc⟩ := h.ch
  refine ⟨h.box.grown ho (fun e => ?_), ⟨s, r, (ho.block c h.clt (fun e => ?_)).trans hc⟩, h.few, fun x hx => ?_⟩
  · injection e with e; subst e
    have := hk.eq.symm.trans h.box.eq
    injection this with this; injection this with _ this _
    exact box_ne_string this.symm
  · injection e with e; subst e
    have := hk.eq.symm.trans hc
    cases this
  · have hx2 := h.notes x hx
    have hn := hne x hx
    refine ⟨⟨hx2.sees.len, fun hp => ?_⟩, fun ad ha hp => ?_, hx2.caps⟩
    · obtain ⟨ad, e, hlt, hcell⟩ := hx2.sees.at_ hp
      have hz := ho.size
      refine ⟨ad, e, by omega, fun j v hv => (World.cell?_of_block (w := w) (a := ad.add j) ?_).trans (hcell j v hv)⟩
      rw [add_block]
      exact ho.block ad.block hlt (fun e2 => hn ad e hp (by injection e2))
    · obtain ⟨cs, f, e⟩ := hx2.typed ad ha hp
      exact ⟨cs, f, (ho.block ad.block (sees_lt hx2.sees ad ha hp) (fun e2 => hn ad ha hp (by injection e2))).trans e⟩
/-- An own row of small elements that isn't empty is a block. -/
theorem own_blk {w : World} {base n c : Nat} {t : TypeId} {A : Option Addr} {xs : List Value} (h : w.ownsRow base t 1 (.slice A n c) n xs) (hn : 0 < n) : ∃ gk cs, A = some ⟨gk, 0, none⟩ ∧ Blk w gk t cs ∧ n ≤ cs.length ∧ base ≤ gk := by
  rcases h.2 with ⟨_, h1⟩ | ⟨gk, cap, cur, hv, hb, hh, hc, _, hs, _⟩
  · omega
  · injection hv with hv
    exact ⟨gk, cur.toList, hv, Blk.mk (by simpa using hh), by simp; omega, hb⟩
/-- A row of texts that lies below B. -/
structure OSee (B : Nat) (A : Option Addr) (zs : List ByteArray) (w : World) : Prop where
  sees : Sees w B 1 A zs.length (strs zs)
  typed : Typed w 9 A zs.length
  b : B ≤ w.heap.size
theorem OSee.below {B : Nat} {A : Option Addr} {zs : List ByteArray} {w w' : World} (h : OSee B A zs w) (hb : Below w.heap.size w w') : OSee B A zs w' := ⟨h.sees.below (hb.mono h.b), h.typed.below hb (fun ad ha hn => Nat.lt_of_lt_of_le (sees_lt h.sees ad ha hn) h.b), Nat.le_trans h.b hb.size⟩
theorem OSee.mwr {B b c : Nat} {A : Option Addr} {zs : List ByteArray} {w w' : World} (h : OSee B A zs w) (hn : NotBC w b c) (hm : MWr b c w w') : OSee B A zs w' := by
  have hne := h.typed.bc hn box_ne_string
  refine ⟨⟨h.sees.len, fun hp => ?_⟩, h.typed.mwr (fun ad ha hp => Nat.lt_of_lt_of_le (sees_lt h.sees ad ha hp) h.b) hne hm, Nat.le_trans h.b hm.size⟩
  obtain ⟨ad, e, hlt, hcell⟩ := h.sees.at_ hp
  refine ⟨ad, e, hlt, fun j v hv => (World.cell?_of_block (w := w) (a := ad.add j) ?_).trans (hcell j v hv)⟩
  rw [add_block]
  exact hm.block ad.block (Nat.lt_of_lt_of_le hlt h.b) (hne ad e hp).1 (hne ad e hp).2
/-- What lies at B or behind is written. -/
theorem OSee.write {B g : Nat} {A : Option Addr} {zs : List ByteArray} {w w' : World} (h : OSee B A zs w) (ho : w.grownBy w' (some g)) (hg : B ≤ g) : OSee B A zs w' := by
  have hb : Below B w w' := (Below.refl B w).grown ho h.b (fun k hk => by injection hk with hk; omega)
  exact ⟨h.sees.below hb, h.typed.below hb (sees_lt h.sees), Nat.le_trans h.b ho.size⟩
/-- A row of one element of three cells. -/
theorem own_blk3 {w : World} {base c : Nat} {t : TypeId} {A : Option Addr} {xs : List Value} (h : w.ownsRow base t 3 (.slice A 1 c) 1 xs) : ∃ gk cs, A = some ⟨gk, 0, none⟩ ∧ Blk w gk t cs ∧ base ≤ gk ∧ cs.take 3 = xs ∧ gk < w.heap.size := by
  rcases h.2 with ⟨_, h1⟩ | ⟨gk, cap, cur, hv, hb, hh, hc, _, hs, hx⟩
  · omega
  · injection hv with hv
    exact ⟨gk, cur.toList, hv, Blk.mk (by simpa using hh), hb, by simpa using hx, (Array.getElem?_eq_some_iff.1 hh).1⟩
theorem belowD {B : Nat} {a w : World} (h : Below B a w) (n : Nat) : Below B a (w.drewN n) := ⟨h.os, h.tape, h.output, h.size, h.block⟩
theorem string_ne_box : (9 : TypeId) ≠ 46 := by decide
theorem only1 (w : World) (g i : Nat) (u : Value) : w.grownBy (w.setCell ⟨g, i, none⟩ u) (some g) := ⟨rfl, rfl, rfl, by simp, fun j _ hj => Below.heap_setCell w _ u j (fun e => hj (by rw [e]))⟩
theorem Put_zero (b c cap : Nat) (d : Int) (l : List NV) (w : World) (h : BAt b c cap d l w) (hcap : 1 ≤ cap ∧ cap ≤ 8) (hd : 0 ≤ d ∧ d ≤ 1000000000) (hal : ∀ x ∈ l, x.al = []) :
    Calls Try.prog 8 #[.pointer (some ⟨b, 0, none⟩), .slice (some ⟨w.heap.size, 0, none⟩) 1 1] (w.alloc (.cells #[.string ⟨#[]⟩, .string ⟨#[]⟩, .slice none 0 0] 27)) fun e w' => ∃ (l2 : List NV) (r : Int), e = .returned (.int .i64 r) ∧ BAt b c cap (d + ((l.length + 1 - cap : Nat) : Int)) l2 w' ∧ l2.length = min (l.length + 1) cap ∧ (∀ x ∈ l2, x.al = []) ∧ MWr b c (w.alloc (.cells #[.string ⟨#[]⟩, .string ⟨#[]⟩, .slice none 0 0] 27)) w' := by
  have hk : Blk (w.alloc (.cells #[.string ⟨#[]⟩, .string ⟨#[]⟩, .slice none 0 0] 27)) w.heap.size 27 (ncells [NV.zero]) := Blk.mk (heap_alloc_new w _)
  refine (Put_any b c cap d l (some ⟨w.heap.size, 0, none⟩) 1 1 [NV.zero] _ (h.alloc _) hcap (hk.sees rfl (List.prefix_refl _)) (typed_blk hk) (fun x hx => by rw [List.mem_singleton.1 hx]; exact NOk.zero _) (fun x hx => by rw [List.mem_singleton.1 hx]; simp [NV.zero]) (by omega) hd).mono ?_
  rintro e w' ⟨l2, rfl, h1, h2, h3, _⟩
  refine ⟨l2, _, rfl, h1, ?_, fun x hx => ?_, h3⟩
  · have := congrArg List.length h2
    rwa [List.length_map, lastN_length, List.length_map, List.length_append, List.length_singleton] at this
  · have hx2 : x.key ∈ lastN cap ((l ++ [NV.zero]).map NV.key) := by rw [← h2]; exact List.mem_map_of_mem hx
    have hx3 := List.mem_of_mem_drop hx2
    obtain ⟨y, hy, hxy⟩ := List.mem_map.1 hx3
    have : x.al = y.al := by have := congrArg (fun k => k.2.2) hxy; exact this.symm
    rw [this]
    rcases List.mem_append.1 hy with hy | hy
    · exact hal y hy
    · rw [List.mem_singleton.1 hy]; rfl
set_option maxHeartbeats 4000000 in
theorem mail_copies (A : Option Addr) (n cA : Nat) (txt : List ByteArray) (room : Int) (w : World) (hs : Sees w w.heap.size 1 A n (strs txt)) (hn : n ≤ cA ∧ cA ≤ 9223372036854775807) :
    Calls Try.prog 6 #[.slice A n cA, .int .i64 room] w fun e w' => e = .returned (.bool true) ∧ Below w.heap.size w w' := by
  obtain ⟨i0, hi, hz0, hz1, hz2⟩ := info_parts Try.infoStr
  have hc8 : capN 8 = 8 := by decide
  obtain ⟨hn1, hn2⟩ := hn
  obtain ⟨k, hk⟩ : ∃ k, min n 5 = k := ⟨_, rfl⟩
  have hk2 : k ≤ n := by omega
  have hk5 : k ≤ 5 := by omega
  have HT := Lib.hid (show Sees w w.heap.size 1 A k (strs (txt.take k)) by have h := hs.take hk2; rwa [Nat.mul_one, strs_take] at h)
  have HZL := Lib.hid HT.out.str_len
  generalize txt.take k = zs at *
  clear hs
  go_enter Try.func6, Try.ntmps6
  go_wp2_with fail
  (with_reducible refine (bnew_any 8 _).mono ?_); rintro e w1 ⟨b, c, rfl, hb1, hgb, hgc, hbel1⟩
  rw [hc8] at hb1
  have HB1 := Lib.hid hb1; have HL1 := Lib.hid hbel1
  clear hb1 hbel1 hc8
  have HT1 := Lib.hid ((HT.out.below HL1.out).more HL1.out.size)
  clear HT
  go_upto_region 4 with fail
  go_cut [6] (fun x6 wx => wx.ownsRow w1.heap.size 9 1 x6 k (strs zs) ∧ Below w1.heap.size w1 wx)
  case first =>
    have HO := Lib.hid (World.ownsRow_made (base := w1.heap.size) (e := 9) (size := 1) w1 #[] 0 (Nat.le_refl _) (by unfold maxLen; omega) rfl)
    have HS := Lib.hid (HT1.out.below ((Below.refl w1.heap.size w1).alloc (Nat.le_refl _) (.cells #[] 9)))
    by_cases h5 : n ≤ 5
    · obtain rfl : k = n := by omega
      clear hk
      go_wp2_with (at_builtin; refine wpList_append_sees rfl (.tmp 19) (.tmp 24) 25 rfl w1.heap.size 9 i0 (.string ⟨#[]⟩) 1 16 Try.underlying25 hi hz0 hz1 hz2 rfl (by decide) _ 0 [] rfl HO.out _ A k _ (strs zs) rfl HS.out (strs_one _) (by unfold maxLen; omega) (by omega) (by simp) ?_)
      intro v' w2 hown hg
      have hb := ((Below.refl w1.heap.size w1).alloc (Nat.le_refl _) _).grown hg (by simp) (by simp [Value.ownBlock])
      have H1 := Lib.hid hown; have H2 := Lib.hid hb; clear hown hb hg
      go_wp2_with fail
      go_meet
      exact ⟨by simpa using H1.out, H2.out⟩
    · obtain rfl : k = 5 := by omega
      clear hk
      go_wp2_with (at_builtin; refine wpList_append_sees rfl (.tmp 19) (.tmp 24) 25 rfl w1.heap.size 9 i0 (.string ⟨#[]⟩) 1 16 Try.underlying25 hi hz0 hz1 hz2 rfl (by decide) _ 0 [] rfl HO.out _ A 5 _ (strs zs) rfl HS.out (strs_one _) (by unfold maxLen; omega) (by omega) (by simp) ?_)
      intro v' w2 hown hg
      have hb := ((Below.refl w1.heap.size w1).alloc (Nat.le_refl _) _).grown hg (by simp) (by simp [Value.ownBlock])
      have H1 := Lib.hid hown; have H2 := Lib.hid hb; clear hown hb hg
      go_wp2_with fail
      go_meet
      exact ⟨by simpa using H1.out, H2.out⟩
  case rest =>
    obtain ⟨hown, hbel⟩ := hcut
    obtain ⟨A6, c6, rfl, hc6, hd6⟩ := own_slice hown
    have HB2 := Lib.hid (HB1.out.below hbel); have HL2 := Lib.hid (HL1.out.trans (hbel.mono HL1.out.size)); have HO2 := Lib.hid hown
    clear hown hbel HB1 HL1 HT1 hk
    have hzl := HZL.out
    clear HZL
    subst hzl
    go_upto_region 5 with fail
    obtain ⟨B2, hB2⟩ : ∃ B2, wc.heap.size = B2 := ⟨_, rfl⟩
    have HBE := Lib.hid hB2
    clear hB2
    go_cut [7] (fun x7 wx => wx.ownsRow B2 9 1 x7 zs.length (strs zs) ∧ BAt b c 8 0 [] wx ∧ Below w.heap.size w wx ∧ Sees wx B2 1 A6 zs.length (strs zs) ∧ w.heap.size ≤ B2 ∧ Typed wx 9 A6 zs.length ∧ B2 ≤ wx.heap.size)
    case first =>
      have HO := Lib.hid (World.ownsRow_made (base := wc.heap.size) (e := 9) (size := 1) wc #[] 0 (Nat.le_refl _) (by unfold maxLen; omega) rfl)
      have HS := Lib.hid ((Sees.of_own HO2.out).below ((Below.refl wc.heap.size wc).alloc (Nat.le_refl _) (.cells #[] 9)))
      go_wp2_with (at_builtin; refine wpList_append_sees rfl (.tmp 26) (.tmp 27) 25 rfl wc.heap.size 9 i0 (.string ⟨#[]⟩) 1 16 Try.underlying25 hi hz0 hz1 hz2 rfl (by decide) _ 0 [] rfl HO.out _ A6 zs.length _ (strs zs) rfl HS.out (strs_one _) (by unfold maxLen; omega) (by omega) (by simp) ?_)
      intro v' w3 hown hg
      have hb := ((Below.refl wc.heap.size wc).alloc (Nat.le_refl _) _).grown hg (by simp) (by simp [Value.ownBlock])
      have H1 := Lib.hid hown; have H2 := Lib.hid hb; clear hown hb hg
      go_wp2_with fail
      go_meet
      have hz := HL2.out.size
      rw [HBE.out] at hz
      exact ⟨by rw [← HBE.out]; simpa using H1.out, HB2.out.below H2.out, HL2.out.trans (H2.out.mono HL2.out.size), by rw [← HBE.out]; exact (Sees.of_own HO2.out).below H2.out, hz, (Typed.of_own HO2.out).below H2.out (sees_lt (Sees.of_own HO2.out)), by rw [← HBE.out]; exact H2.out.size⟩
    case rest =>
      obtain ⟨hown, hb3, hl3, hs3, hwb, ht3, hB2⟩ := hcut
      obtain ⟨A7, c7, rfl, hc7, hd7⟩ := own_slice hown
      have HB3 := Lib.hid hb3; have HL3 := Lib.hid hl3; have HS3 := Lib.hid (OSee.mk hs3 ht3 hB2); have HO3 := Lib.hid hown
      clear hb3 hl3 hs3 ht3 hown HB2 HL2 HO2 HBE
      have HW := Lib.hid ((Below.refl wc.heap.size wc).alloc (Nat.le_refl _) (.cells #[.string ⟨#[116]⟩, .string ⟨#[103]⟩, .slice A7 zs.length c7] 27))
      have HK := Lib.hid (Blk.mk (heap_alloc_new wc (.cells #[.string ⟨#[116]⟩, .string ⟨#[103]⟩, .slice A7 zs.length c7] 27)) : Blk _ _ 27 (ncells [⟨⟨#[116]⟩, ⟨#[103]⟩, A7, c7, zs⟩]))
      have HO4 := Lib.hid (own_below HO3.out HW.out (Nat.le_refl _))
      have HP := Lib.hid (Put_any b c 8 0 [] (some ⟨wc.heap.size, 0, none⟩) 1 1 [⟨⟨#[116]⟩, ⟨#[103]⟩, A7, c7, zs⟩] _ (HB3.out.below HW.out) (by omega) (HK.out.sees rfl (List.prefix_refl _)) (typed_blk HK.out)
        (fun x hx => by rw [List.mem_singleton.1 hx]; exact ⟨Sees.of_own HO4.out, Typed.of_own HO4.out, hc7, hd7⟩) (fun x hx => by rw [List.mem_singleton.1 hx]; show zs.length ≤ 1000000; omega) (by omega) (by omega))
      have hz3 := HB3.out.box.lt
      go_wp2_with fail
      (with_reducible refine HP.out.mono ?_); rintro e w5 ⟨l2, rfl, hb5, hk5', hm5, hf5⟩
      have hlen : l2.length = 1 := by have := congrArg List.length hk5'; simpa [lastN] using this
      match l2, hlen with
      | [y], _ =>
        have hyk : y.key = (⟨#[116]⟩, ⟨#[103]⟩, zs) := by simpa [lastN, NV.key] using hk5'
        have hyf : FreshN (wc.heap.size + 1) y := by
          rcases hf5 y List.mem_cons_self with h | h
          · cases h
          · simpa using h
        obtain ⟨yd, yg, yA, yc, yal⟩ := y
        simp only [NV.key, Prod.mk.injEq] at hyk
        obtain ⟨rfl, rfl, hyal⟩ := hyk
        have hyal := hyal.symm
        subst hyal
        have HB5 := Lib.hid (show BAt b c 8 0 [(⟨⟨#[116]⟩, ⟨#[103]⟩, yA, yc, zs⟩ : NV)] w5 from hb5)
        have HYF := Lib.hid hyf
        have HL5 := Lib.hid (hm5.bel (HL3.out.trans (HW.out.mono HL3.out.size)) hgb hgc)
        have HS5 := Lib.hid ((HS3.out.below HW.out).mwr (HB3.out.below HW.out).bc hm5)
        have HO5 := Lib.hid (own_mwr HO4.out (HB3.out.below HW.out).bc string_ne_box hm5)
        have HHB := Lib.hid (show 0 < zs.length → ∃ gk cs, A7 = some ⟨gk, 0, none⟩ ∧ Blk w5 gk 9 cs ∧ zs.length ≤ cs.length ∧ B2 ≤ gk ∧ gk < wc.heap.size from fun hp => by
          obtain ⟨gk, cs, h1, h2, h3, h4⟩ := own_blk HO5.out hp
          refine ⟨gk, cs, h1, h2, h3, h4, ?_⟩
          subst h1
          exact (HO3.out.lt gk rfl).2)
        clear hb5 hk5' hm5 hf5 hyf HP HK HW HB3 HL3 HS3 HO3 HO4 HO5
        generalize wc.heap.size = X at *
        go_wp2_with fail
        go_loopg [37] zs.length (fun g x37 wr => ∃ q : Nat, q + g = zs.length ∧ x37 = .int .i64 q ∧ BAt b c 8 0 [(⟨⟨#[116]⟩, ⟨#[103]⟩, yA, yc, zs⟩ : NV)] wr ∧ Below w.heap.size w wr ∧ OSee B2 A6 zs wr ∧ (0 < zs.length → ∃ gk cs, A7 = some ⟨gk, 0, none⟩ ∧ Blk wr gk 9 cs ∧ zs.length ≤ cs.length ∧ B2 ≤ gk ∧ gk < X))
        case atStart => exact ⟨0, by omega, rfl, HB5.out, HL5.out, HS5.out, HHB.out⟩
        case round =>
          obtain ⟨q, hqg, rfl, hb, hl, hs, hh⟩ := hrel
          have HB := Lib.hid hb; have HL := Lib.hid hl; have HS := Lib.hid hs; have HH := Lib.hid hh
          clear hb hl hs hh HB5 HL5 HS5 HHB
          cases gk with
          | zero =>
            obtain rfl : q = zs.length := by omega
            have HA := Lib.hid (All_any b c 8 0 [(⟨⟨#[116]⟩, ⟨#[103]⟩, yA, yc, zs⟩ : NV)] _ HB.out (by omega) (fun x hx => by rw [List.mem_singleton.1 hx]; show zs.length ≤ 1000000; omega))
            rw [show ([(⟨⟨#[116]⟩, ⟨#[103]⟩, yA, yc, zs⟩ : NV)] : List NV).length = 1 from rfl] at HA
            go_wp2_with fail
            (with_reducible refine HA.out.mono ?_); rintro e w7 ⟨A9, c9, ys, rfl, how, hkey, hns, hb7, hm7, hc9⟩
            have hlen : ys.length = 1 := by have := congrArg List.length hkey; simpa using this
            match ys, hlen with
            | [y2], _ =>
              obtain ⟨yd2, yg2, A2, c2, yal2⟩ := y2
              simp only [List.map_cons, List.map_nil, List.cons.injEq, and_true, NV.key, Prod.mk.injEq] at hkey
              obtain ⟨rfl, rfl, hyal⟩ := hkey
              have hyal := hyal.symm
              subst hyal
              obtain ⟨g9, cs9, rfl, hk9, hg9, ht9, _⟩ := own_blk3 how
              have he9 : cs9[2]? = some (.slice A2 zs.length c2) := by
                have h1 : (cs9.take 3)[2]? = cs9[2]? := by rw [List.getElem?_take]; rfl
                rw [← h1, ht9]; rfl
              have HO7 := Lib.hid (hns.own _ List.mem_cons_self)
              have HB7 := Lib.hid hb7; have HL7 := Lib.hid (hm7.bel HL.out hgb hgc); have HS7 := Lib.hid (HS.out.mwr HB.out.bc hm7); have HK9 := Lib.hid hk9
              have HN7 := Lib.hid (hns.ok _ List.mem_cons_self)
              have hX2 := HS.out.b
              have HYL := Lib.hid (show ∀ ad, yA = some ad → 0 < zs.length → ad.block < wr.heap.size from sees_lt (HB.out.notes _ List.mem_cons_self).sees)
              have HHB := Lib.hid (show 0 < zs.length → ∃ gk cs, A2 = some ⟨gk, 0, none⟩ ∧ Blk w7 gk 9 cs ∧ zs.length ≤ cs.length ∧ wr.heap.size ≤ gk from fun hp => own_blk HO7.out hp)
              have hwl := HL.out.size
              clear how hns hb7 hm7 hk9 ht9 HO7 HA HB HL HS HH hc9
              generalize wr.heap.size = X2 at *
              have e9 := HK9.out.cell 2
              rw [he9] at e9
              have HSM := Lib.hid (same_str A2 A6 zs.length c2 zs.length c6 _ _ zs zs _ HN7.out.sees HS7.out.sees (by omega) (by omega))
              rw [decide_eq_true (rfl : zs = zs)] at HSM
              go_wp2_with fail
              (with_reducible refine HSM.out.mono ?_); rintro e wq ⟨rfl, m, rfl⟩
              clear HSM
              go_wp2_with fail
              have HD := Lib.hid (belowD (Below.refl w7.heap.size w7) m)
              have HB8 := Lib.hid (HB7.out.below HD.out); have HL8 := Lib.hid (belowD HL7.out m); have HS8 := Lib.hid (HS7.out.below HD.out); have HK8 := Lib.hid (HK9.out.below HD.out HK9.out.lt)
              have HHB2 := Lib.hid (show 0 < zs.length → ∃ gk cs, A2 = some ⟨gk, 0, none⟩ ∧ Blk (w7.drewN m) gk 9 cs ∧ zs.length ≤ cs.length ∧ X2 ≤ gk from HHB.out)
              clear HD HB7 HL7 HS7 HK9 HHB HN7 e9
              go_loopg [63] zs.length (fun g x63 wr => ∃ q : Nat, q + g = zs.length ∧ x63 = .int .i64 q ∧ BAt b c 8 0 [(⟨⟨#[116]⟩, ⟨#[103]⟩, yA, yc, zs⟩ : NV)] wr ∧ Below w.heap.size w wr ∧ OSee B2 A6 zs wr ∧ Blk wr g9 27 cs9 ∧ (0 < zs.length → ∃ gk cs, A2 = some ⟨gk, 0, none⟩ ∧ Blk wr gk 9 cs ∧ zs.length ≤ cs.length ∧ X2 ≤ gk))
              case atStart => exact ⟨0, by omega, rfl, HB8.out, HL8.out, HS8.out, HK8.out, HHB2.out⟩
              case round =>
                obtain ⟨q, hqg, rfl, hb, hl, hs, hk, hh⟩ := hrel
                have HB := Lib.hid hb; have HL := Lib.hid hl; have HS := Lib.hid hs; have HH := Lib.hid hh; have HK := Lib.hid hk
                clear hb hl hs hh hk HB8 HL8 HS8 HK8 HHB2
                cases gk with
                | zero =>
                  obtain rfl : q = zs.length := by omega
                  clear HH HK he9
                  have HTK := Lib.hid (Take_yes b c 8 0 _ [] _ HB.out)
                  unfold NV.val at HTK
                  simp only at HTK
                  go_wp2_with fail
                  (with_reducible refine HTK.out.mono ?_); rintro e w9 ⟨rfl, hb9, hx9, hm9⟩
                  have HB9 := Lib.hid (hb9.alloc (.cells #[.string ⟨#[116]⟩, .string ⟨#[103]⟩, .slice yA zs.length yc] 27))
                  have HX9 := Lib.hid (hx9.below ((Below.refl _ _).alloc (Nat.le_refl _) (.cells #[.string ⟨#[116]⟩, .string ⟨#[103]⟩, .slice yA zs.length yc] 27)))
                  have HL9 := Lib.hid ((hm9.bel HL.out hgb hgc).alloc (hm9.bel HL.out hgb hgc).size (.cells #[.string ⟨#[116]⟩, .string ⟨#[103]⟩, .slice yA zs.length yc] 27))
                  have HS9 := Lib.hid ((HS.out.mwr HB.out.bc hm9).below ((Below.refl _ _).alloc (Nat.le_refl _) (.cells #[.string ⟨#[116]⟩, .string ⟨#[103]⟩, .slice yA zs.length yc] 27)))
                  have HK9 := Lib.hid (Blk.mk (heap_alloc_new w9 (.cells #[.string ⟨#[116]⟩, .string ⟨#[103]⟩, .slice yA zs.length yc] 27)) : Blk _ _ 27 [.string ⟨#[116]⟩, .string ⟨#[103]⟩, .slice yA zs.length yc])
                  clear hb9 hx9 hm9 HTK HB HL HS
                  have hcm5 : capN (-5) = 1 := by decide
                  have hcb : capN 1099511627776 = 8 := by decide
                  go_wp2_with fail
                  (with_reducible refine (bnew_any (-5) _).mono ?_); rintro e w10 ⟨b2, c2', rfl, hb10, hgb2, hgc2, hbel10⟩
                  rw [hcm5] at hb10
                  have HB10 := Lib.hid (HB9.out.below hbel10); have HX10 := Lib.hid (HX9.out.below hbel10); have HL10 := Lib.hid (HL9.out.trans (hbel10.mono HL9.out.size)); have HS10 := Lib.hid (HS9.out.below hbel10); have HK10 := Lib.hid (HK9.out.below hbel10 HK9.out.lt)
                  have HC10 := Lib.hid hb10
                  have HWC := Lib.hid (show w.heap.size ≤ b2 ∧ w.heap.size ≤ c2' from ⟨Nat.le_trans HL9.out.size hgb2, Nat.le_trans HL9.out.size hgc2⟩)
                  clear hb10 hbel10 HB9 HX9 HL9 HS9 HK9 hgb2 hgc2
                  go_wp2_with fail
                  (with_reducible refine (bnew_any 1099511627776 _).mono ?_); rintro e w11 ⟨b3, c3, rfl, hb11, hgb3, hgc3, hbel11⟩
                  rw [hcb] at hb11
                  have HB11 := Lib.hid (HB10.out.below hbel11); have HX11 := Lib.hid (HX10.out.below hbel11); have HL11 := Lib.hid (HL10.out.trans (hbel11.mono HL10.out.size)); have HS11 := Lib.hid (HS10.out.below hbel11); have HK11 := Lib.hid (HK10.out.below hbel11 HK10.out.lt)
                  have HC11 := Lib.hid (HC10.out.below hbel11)
                  have HD11 := Lib.hid hb11
                  have HWD := Lib.hid (show w.heap.size ≤ b3 ∧ w.heap.size ≤ c3 from ⟨Nat.le_trans HL10.out.size hgb3, Nat.le_trans HL10.out.size hgc3⟩)
                  have HNE := Lib.hid (show b2 ≠ b3 ∧ c2' ≠ c3 from ⟨by have := HC10.out.box.lt; omega, by have := HC10.out.clt; omega⟩)
                  clear hb11 hbel11 HB10 HX10 HL10 HS10 HK10 HC10 hgb3 hgc3 hcm5 hcb
                  have k2 := HK11.out.cell 2
                  simp only [List.getElem?_cons_zero, List.getElem?_cons_succ] at k2
                  have HSM := Lib.hid (same_str yA A6 zs.length yc zs.length c6 _ _ zs zs _ HX11.out.sees HS11.out.sees (by omega) (by omega))
                  rw [decide_eq_true (rfl : zs = zs)] at HSM
                  go_wp2_with fail
                  (with_reducible refine HSM.out.mono ?_); rintro e wq ⟨rfl, m2, rfl⟩
                  have HD := Lib.hid (belowD (Below.refl w11.heap.size w11) m2)
                  have HB12 := Lib.hid (HB11.out.below HD.out); have HL12 := Lib.hid (belowD HL11.out m2); have HC12 := Lib.hid (HC11.out.below HD.out); have HD12 := Lib.hid (HD11.out.below HD.out)
                  clear HD HSM HB11 HX11 HL11 HS11 HK11 HC11 HD11 k2
                  go_wp2_with fail
                  (with_reducible refine (blen_any b c 8 0 [] _ HB12.out).mono ?_); rintro e wq ⟨rfl, rfl⟩
                  clear HB12
                  go_wp2_with fail
                  go_loopg [15] 10 (fun g x15 wr => ∃ (i : Nat) (lc ld : List NV), i + g = 10 ∧ x15 = .int .i64 i ∧ BAt b2 c2' 1 ((i - 1 : Nat) : Int) lc wr ∧ BAt b3 c3 8 ((i - 8 : Nat) : Int) ld wr ∧ lc.length = min i 1 ∧ ld.length = min i 8 ∧ (∀ x ∈ lc, x.al = []) ∧ (∀ x ∈ ld, x.al = []) ∧ Below w.heap.size w wr)
                  case atStart => exact ⟨0, [], [], by omega, rfl, HC12.out, HD12.out, rfl, rfl, (fun x hx => by cases hx), (fun x hx => by cases hx), HL12.out⟩
                  case round =>
                    obtain ⟨i, lc, ld, hig, rfl, hc, hd, hlc, hld, hac, had, hl⟩ := hrel
                    have HC := Lib.hid hc; have HD := Lib.hid hd; have HL := Lib.hid hl; have HAC := Lib.hid hac; have HAD := Lib.hid had
                    clear hc hd hl hac had HC12 HD12 HL12
                    cases gk with
                    | zero =>
                      obtain rfl : i = 10 := by omega
                      have hlc1 : lc.length = 1 := by omega
                      have hld8 : ld.length = 8 := by omega
                      clear hlc hld
                      have HCN := Lib.hid (blen_any b2 c2' 1 _ lc _ HC.out); have HDN := Lib.hid (blen_any b3 c3 8 _ ld _ HD.out); have HDD := Lib.hid (bdropped_any b3 c3 8 _ ld _ HD.out)
                      have HDA := Lib.hid (All_any b3 c3 8 _ ld _ HD.out (by omega) (fun x hx => by rw [HAD.out x hx]; simp))
                      rw [hlc1] at HCN
                      rw [hld8] at HDN HDA
                      rw [show (((10 - 8 : Nat) : Nat) : Int) = 2 from rfl] at HDD
                      go_wp2_with fail
                      (with_reducible refine HCN.out.mono ?_); rintro e wq ⟨rfl, rfl⟩
                      go_wp2_with fail
                      (with_reducible refine HDN.out.mono ?_); rintro e wq ⟨rfl, rfl⟩
                      go_wp2_with fail
                      (with_reducible refine HDD.out.mono ?_); rintro e wq ⟨rfl, rfl⟩
                      go_wp2_with fail
                      (with_reducible refine HDA.out.mono ?_); rintro e w20 ⟨A20, c20, ys, rfl, _, _, _, hd20, hm20, _⟩
                      have HL20 := Lib.hid (hm20.bel HL.out HWD.out.1 HWD.out.2)
                      have HDN := Lib.hid (blen_any b3 c3 8 _ ld _ hd20)
                      rw [hld8] at HDN
                      clear hd20 hm20 HDA
                      go_wp2_with fail
                      (with_reducible refine HDN.out.mono ?_); rintro e wq ⟨rfl, rfl⟩
                      go_wp2_with fail
                      (with_reducible refine (mail_runs _).mono ?_); rintro e w21 ⟨rfl, hb21⟩
                      have HL21 := Lib.hid (HL20.out.trans (hb21.mono HL20.out.size))
                      clear hb21
                      go_wp2_with fail
                      go_ret
                      exact ⟨rfl, HL21.out⟩
                    | succ g3 =>
                      have HPC := Lib.hid (Put_zero b2 c2' 1 _ lc _ HC.out (by omega) (by omega) HAC.out)
                      go_wp2_with fail
                      (with_reducible refine HPC.out.mono ?_); rintro e w20 ⟨lc2, r, rfl, hc20, hlc2, hac2, hm20⟩
                      have HC20 := Lib.hid hc20; have HAC2 := Lib.hid hac2
                      have HD20 := Lib.hid ((HD.out.alloc (.cells #[.string ⟨#[]⟩, .string ⟨#[]⟩, .slice none 0 0] 27)).other (HC.out.alloc (.cells #[.string ⟨#[]⟩, .string ⟨#[]⟩, .slice none 0 0] 27)).bc hm20 (Ne.symm HNE.out.1) (Ne.symm HNE.out.2))
                      have HL20 := Lib.hid (hm20.bel (HL.out.alloc HL.out.size (.cells #[.string ⟨#[]⟩, .string ⟨#[]⟩, .slice none 0 0] 27)) HWC.out.1 HWC.out.2)
                      clear hc20 hac2 hm20 HPC HC HD HL HAC
                      have HPD := Lib.hid (Put_zero b3 c3 8 _ ld _ HD20.out (by omega) (by omega) HAD.out)
                      go_wp2_with fail
                      (with_reducible refine HPD.out.mono ?_); rintro e w22 ⟨ld2, r2, rfl, hd22, hld2, had2, hm22⟩
                      have HD22 := Lib.hid hd22; have HAD2 := Lib.hid had2
                      have HC22 := Lib.hid ((HC20.out.alloc (.cells #[.string ⟨#[]⟩, .string ⟨#[]⟩, .slice none 0 0] 27)).other (HD20.out.alloc (.cells #[.string ⟨#[]⟩, .string ⟨#[]⟩, .slice none 0 0] 27)).bc hm22 HNE.out.1 HNE.out.2)
                      have HL22 := Lib.hid (hm22.bel (HL20.out.alloc HL20.out.size (.cells #[.string ⟨#[]⟩, .string ⟨#[]⟩, .slice none 0 0] 27)) HWD.out.1 HWD.out.2)
                      clear hd22 had2 hm22 HPD HC20 HD20 HL20 HAD
                      rw [show ((i - 1 : Nat) : Int) + ((lc.length + 1 - 1 : Nat) : Int) = ((i + 1 - 1 : Nat) : Int) by omega] at HC22
                      rw [show ((i - 8 : Nat) : Int) + ((ld.length + 1 - 8 : Nat) : Int) = ((i + 1 - 8 : Nat) : Int) by omega] at HD22
                      go_wp2_with fail
                      go_roundg g3
                      case measure => omega
                      case rel => exact ⟨i + 1, lc2, ld2, by omega, by go_num, HC22.out, HD22.out, by omega, by omega, HAC2.out, HAD2.out, HL22.out⟩
                | succ g2 =>
                  have hqt : q < zs.length := by omega
                  obtain ⟨gk2, cs, rfl, hblk, hcs, hgk⟩ := HH.out (by omega)
                  have f0 := hblk.frozen q
                  have e0 := hblk.cell q
                  have e9 := HK.out.cell 2
                  rw [he9] at e9
                  obtain ⟨u, hu⟩ : ∃ u, cs[q]? = some u := ⟨cs[q]'(by omega), List.getElem?_eq_getElem (by omega)⟩
                  rw [hu] at e0
                  have HK2 := Lib.hid (hblk.set q (.string ⟨#[116, 117, 114, 110, 101, 100]⟩))
                  have HB2 := Lib.hid (HB.out.str hblk (fun x hx ad ha hp => by rw [List.mem_singleton.1 hx] at ha hp; have := HYL.out ad ha hp; omega) (only1 wr gk2 q (.string ⟨#[116, 117, 114, 110, 101, 100]⟩)))
                  have HS2 := Lib.hid (HS.out.write (only1 wr gk2 q (.string ⟨#[116, 117, 114, 110, 101, 100]⟩)) (by omega))
                  have HL2 := Lib.hid (HL.out.setCell (p := ⟨gk2, q, none⟩) (show w.heap.size ≤ gk2 by omega) (.string ⟨#[116, 117, 114, 110, 101, 100]⟩))
                  have HK3 := Lib.hid (HK.out.far (p := ⟨gk2, q, none⟩) (fun e => by
                    subst e
                    have := HK.out.eq.symm.trans hblk.eq
                    injection this with this; injection this with _ this _
                    exact note_ne_string this) (.string ⟨#[116, 117, 114, 110, 101, 100]⟩))
                  clear HB HL HS HH HK hblk hu
                  go_wp2_with fail
                  go_roundg g2
                  case measure => omega
                  case rel => exact ⟨q + 1, by omega, by go_num, HB2.out, HL2.out, HS2.out, HK3.out, fun _ => ⟨gk2, _, rfl, HK2.out, by simpa using hcs, hgk⟩⟩
          | succ g2 =>
            have hqt : q < zs.length := by omega
            obtain ⟨gk2, cs, rfl, hblk, hcs, hgk, hgx⟩ := HH.out (by omega)
            have f0 := hblk.frozen q
            have e0 := hblk.cell q
            obtain ⟨u, hu⟩ : ∃ u, cs[q]? = some u := ⟨cs[q]'(by omega), List.getElem?_eq_getElem (by omega)⟩
            rw [hu] at e0
            have HK2 := Lib.hid (hblk.set q (.string ⟨#[116, 117, 114, 110, 101, 100]⟩))
            have HB2 := Lib.hid (HB.out.str hblk (fun x hx ad ha hp => by rw [List.mem_singleton.1 hx] at ha hp; have := HYF.out ad ha hp; omega) (only1 wr gk2 q (.string ⟨#[116, 117, 114, 110, 101, 100]⟩)))
            have HS2 := Lib.hid (HS.out.write (only1 wr gk2 q (.string ⟨#[116, 117, 114, 110, 101, 100]⟩)) hgk)
            have HL2 := Lib.hid (HL.out.setCell (p := ⟨gk2, q, none⟩) (show w.heap.size ≤ gk2 by omega) (.string ⟨#[116, 117, 114, 110, 101, 100]⟩))
            clear HB HL HS HH hblk hu
            go_wp2_with fail
            go_roundg g2
            case measure => omega
            case rel => exact ⟨q + 1, by omega, by go_num, HB2.out, HL2.out, HS2.out, fun _ => ⟨gk2, _, rfl, HK2.out, by simpa using hcs, hgk, hgx⟩⟩
end Go.Proofs.Ytepgllmenljkcaa
