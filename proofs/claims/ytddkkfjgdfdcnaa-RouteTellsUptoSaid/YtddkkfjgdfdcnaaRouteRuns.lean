/- The walk of RouteRuns. -/
import Derived.Test.YtddkkfjgdfdcnaaRoute3
namespace Go.Proofs.Ytddkkfjgdfdcnaa
open Go.ChangeShapes Go.WideShapes Go.ChangeAt Go.RowKit
set_option linter.unusedVariables false
set_option linter.unusedSimpArgs false
set_option maxRecDepth 100000
theorem eq17_any (n v : ByteArray) (w : World) : Calls Try.prog 7 #[.string n, .string v] w fun e w' => ∃ g, e = .returned (.slice (some ⟨g, 0, none⟩) 1 1) ∧ HasM w' (.slice (some ⟨g, 0, none⟩) 1 1) [(n, v, 1)] ∧ Below w.heap.size w w' := by
  have hb := Lib.hid ((Below.refl w.heap.size w).alloc (Nat.le_refl _) (.cells #[.string n, .string v, .int .i64 1] 24))
  have hm := Lib.hid (show HasM (w.alloc (.cells #[.string n, .string v, .int .i64 1] 24)) (.slice (some ⟨w.heap.size, 0, none⟩) 1 1) [(n, v, 1)] from
    ⟨_, 1, rfl, (Blk.mk (heap_alloc_new w _) : Blk _ w.heap.size 24 [.string n, .string v, .int .i64 1]).sees rfl (List.prefix_refl _), Nat.le_refl _, by simp⟩)
  go_enter Try.func7, Try.ntmps7
  go_wp2_with fail
  go_ret
  exact ⟨_, rfl, hm.out, hb.out⟩
def rrA : List Lbl := [(⟨#[97]⟩, ⟨#[120]⟩)]
def rrB : List Lbl := [(⟨#[98]⟩, ⟨#[49]⟩)]
def rrAB : List Lbl := [(⟨#[97]⟩, ⟨#[120]⟩), (⟨#[98]⟩, ⟨#[49]⟩)]
abbrev rrMA : List Mtc := [(⟨#[97]⟩, ⟨#[120]⟩, 1)]
abbrev rrMB : List Mtc := [(⟨#[98]⟩, ⟨#[49]⟩, 1)]
def rrT (a b k : Value) : RT := .mk (.slice none 0 0) [] ⟨#[97, 108, 108]⟩ false k [.mk a rrMA ⟨#[120]⟩ true (.slice none 0 0) [], .mk b rrMB ⟨#[98]⟩ false (.slice none 0 0) []]
theorem rr0 (a b k : Value) : rightT 2 (rrT a b k) = true := by
  show rightT 2 (rrT (.int .i64 0) (.int .i64 0) (.int .i64 0)) = true
  decide
theorem rr1 (a b k : Value) : toF rrAB 2 (rrT a b k) = [⟨#[120]⟩, ⟨#[98]⟩] := by
  show toF rrAB 2 (rrT (.int .i64 0) (.int .i64 0) (.int .i64 0)) = _
  decide
theorem rr2 (a b k : Value) : toF rrA 2 (rrT a b k) = [⟨#[120]⟩] := by
  show toF rrA 2 (rrT (.int .i64 0) (.int .i64 0) (.int .i64 0)) = _
  decide
theorem rr3 (a b k : Value) : toF [] 2 (rrT a b k) = [⟨#[97, 108, 108]⟩] := by
  show toF [] 2 (rrT (.int .i64 0) (.int .i64 0) (.int .i64 0)) = _
  decide
theorem rr4 (a b k : Value) : countF 2 (rrT a b k) = 3 := rfl
/-- Same, of an answer and of new texts. -/
theorem same_texts {V : World} {A : Option Addr} {c : Nat} {L M : List ByteArray} (h : Slc V 1 (.slice A L.length c) L.length (strs L)) (hl : L.length ≤ 1000) (hm : M.length ≤ 1000) :
    Calls Try.prog 8 #[.slice A L.length c, .slice (some ⟨V.heap.size, 0, none⟩) M.length M.length] (V.alloc (.cells (strs M).toArray 9)) fun e w' => e = .returned (.bool (decide (L = M))) ∧ Below V.heap.size V w' := by
  have hb := (Below.refl V.heap.size V).alloc (Nat.le_refl _) (.cells (strs M).toArray 9)
  refine (same_str A (some ⟨V.heap.size, 0, none⟩) L.length c M.length M.length _ _ L M _ (h.below hb).sees ((Blk.mk (heap_alloc_new V _) : Blk _ V.heap.size 9 (strs M)).sees (by simp [strs]) (List.prefix_refl _)) (by omega) (by omega)).mono fun e w' hh => ?_
  obtain ⟨h1, m, rfl⟩ := hh
  exact ⟨h1, below_drewN3 hb m⟩
set_option maxHeartbeats 4000000 in
theorem route_runs (w : World) : Calls Try.prog 3 #[] w fun e w' => e = .returned (.bool true) ∧ Below w.heap.size w w' := by
  obtain ⟨i0, hi0, hz0, hz1, hz2⟩ := info_parts Try.infoLabel
  go_enter Try.func3, Try.ntmps3
  go_wp2_with fail
  (with_reducible refine (eq17_any _ _ _).mono ?_); rintro e w1 ⟨g1, rfl, hm1, hbq⟩
  have HT0 := Lib.hid (((Kept.start w).below hbq).add hm1.stay)
  clear hm1 hbq
  go_wp2_with fail
  (with_reducible refine (eq17_any _ _ _).mono ?_); rintro e w2 ⟨g2, rfl, hm1, hbq⟩
  have HT0_n := Lib.hid ((HT0.out.below hbq).add hm1.stay); clear HT0; have HT0 := HT0_n; clear HT0_n
  clear hm1 hbq
  have HT1 := Lib.hid (show Kept w [fun W => Blk W (w2.heap.size + 1) 28 [.slice none 0 0, .string ⟨#[97, 108, 108]⟩, .bool false, .slice (some ⟨w2.heap.size, 0, none⟩) 2 2], fun W => okAt 2 (rrT (.slice (some ⟨g1, 0, none⟩) 1 1) (.slice (some ⟨g2, 0, none⟩) 1 1) (.slice (some ⟨w2.heap.size, 0, none⟩) 2 2)) W] ((w2.alloc (.cells #[.slice (some ⟨g1, 0, none⟩) 1 1, .string ⟨#[120]⟩, .bool true, .slice none 0 0, .slice (some ⟨g2, 0, none⟩) 1 1, .string ⟨#[98]⟩, .bool false, .slice none 0 0] 28)).alloc (.cells #[.slice none 0 0, .string ⟨#[97, 108, 108]⟩, .bool false, .slice (some ⟨w2.heap.size, 0, none⟩) 2 2] 28)) by
    have k0 := HT0.out.alloc (.cells #[.slice (some ⟨g1, 0, none⟩) 1 1, .string ⟨#[120]⟩, .bool true, .slice none 0 0, .slice (some ⟨g2, 0, none⟩) 1 1, .string ⟨#[98]⟩, .bool false, .slice none 0 0] 28)
    have hk : HasK (w2.alloc (.cells #[.slice (some ⟨g1, 0, none⟩) 1 1, .string ⟨#[120]⟩, .bool true, .slice none 0 0, .slice (some ⟨g2, 0, none⟩) 1 1, .string ⟨#[98]⟩, .bool false, .slice none 0 0] 28)) (.slice (some ⟨w2.heap.size, 0, none⟩) 2 2) [.mk (.slice (some ⟨g1, 0, none⟩) 1 1) rrMA ⟨#[120]⟩ true (.slice none 0 0) [], .mk (.slice (some ⟨g2, 0, none⟩) 1 1) rrMB ⟨#[98]⟩ false (.slice none 0 0) []] :=
      ⟨_, 2, rfl, (Blk.mk (heap_alloc_new w2 _) : Blk _ w2.heap.size 28 [.slice (some ⟨g1, 0, none⟩) 1 1, .string ⟨#[120]⟩, .bool true, .slice none 0 0, .slice (some ⟨g2, 0, none⟩) 1 1, .string ⟨#[98]⟩, .bool false, .slice none 0 0]).sees rfl (List.prefix_refl _), Nat.le_refl _, by simp⟩
    have hn : ∀ W : World, HasK W (.slice none 0 0) [] := fun W => ⟨none, 0, rfl, Sees.nil, Nat.le_refl _, by simp⟩
    have hok : okAt 2 (rrT (.slice (some ⟨g1, 0, none⟩) 1 1) (.slice (some ⟨g2, 0, none⟩) 1 1) (.slice (some ⟨w2.heap.size, 0, none⟩) 2 2)) (w2.alloc (.cells #[.slice (some ⟨g1, 0, none⟩) 1 1, .string ⟨#[120]⟩, .bool true, .slice none 0 0, .slice (some ⟨g2, 0, none⟩) 1 1, .string ⟨#[98]⟩, .bool false, .slice none 0 0] 28)) := by
      refine ⟨⟨none, 0, rfl, Sees.nil, Nat.le_refl _, by simp [RT.ms, rrT]⟩, hk, fun k hk => ?_⟩
      rcases List.mem_cons.1 hk with rfl | hk
      · exact ⟨k0.p1, hn _, (fun x hx => absurd hx List.not_mem_nil)⟩
      · rw [List.mem_singleton] at hk; subst hk
        exact ⟨k0.p0, hn _, (fun x hx => absurd hx List.not_mem_nil)⟩
    have k1 := ((Kept.start w).below k0.bel).add (okAt_stays hok)
    refine (k1.alloc _).add (Blk.stays ?_)
    have h := (Blk.mk (heap_alloc_new (w2.alloc (.cells #[.slice (some ⟨g1, 0, none⟩) 1 1, .string ⟨#[120]⟩, .bool true, .slice none 0 0, .slice (some ⟨g2, 0, none⟩) 1 1, .string ⟨#[98]⟩, .bool false, .slice none 0 0] 28)) (.cells #[.slice none 0 0, .string ⟨#[97, 108, 108]⟩, .bool false, .slice (some ⟨w2.heap.size, 0, none⟩) 2 2] 28)) : Blk _ _ 28 [.slice none 0 0, .string ⟨#[97, 108, 108]⟩, .bool false, .slice (some ⟨w2.heap.size, 0, none⟩) 2 2])
    rw [show (w2.alloc (.cells #[.slice (some ⟨g1, 0, none⟩) 1 1, .string ⟨#[120]⟩, .bool true, .slice none 0 0, .slice (some ⟨g2, 0, none⟩) 1 1, .string ⟨#[98]⟩, .bool false, .slice none 0 0] 28)).heap.size = w2.heap.size + 1 by simp] at h
    exact h)
  clear HT0
  obtain ⟨W3, hW3⟩ : ∃ W, ((w2.alloc (.cells #[.slice (some ⟨g1, 0, none⟩) 1 1, .string ⟨#[120]⟩, .bool true, .slice none 0 0, .slice (some ⟨g2, 0, none⟩) 1 1, .string ⟨#[98]⟩, .bool false, .slice none 0 0] 28)).alloc (.cells #[.slice none 0 0, .string ⟨#[97, 108, 108]⟩, .bool false, .slice (some ⟨w2.heap.size, 0, none⟩) 2 2] 28)) = W := ⟨_, rfl⟩
  obtain ⟨bh, hbh⟩ : ∃ b, w2.heap.size + 1 = b := ⟨_, rfl⟩
  obtain ⟨gk, hgk⟩ : ∃ b, w2.heap.size = b := ⟨_, rfl⟩
  rw [hW3, hbh, hgk] at HT1
  rw [hgk] at hbh
  rw [hgk] at hW3
  go_upto_region 3 with fail
  try rw [hW3]
  clear hW3 hbh hgk
  have HT2 := Lib.hid ((HT1.out.alloc (.cells #[.string ⟨#[97]⟩, .string ⟨#[120]⟩] 30)).add (P := fun W => HasL W (.slice (some ⟨W3.heap.size, 0, none⟩) 1 1) rrA) (HasL.stay ⟨_, 1, rfl, (Blk.mk (heap_alloc_new W3 _) : Blk _ W3.heap.size 30 [.string ⟨#[97]⟩, .string ⟨#[120]⟩]).sees rfl (List.prefix_refl _), Nat.le_refl _, by simp⟩))
  obtain ⟨W4, hW4⟩ : ∃ W, W3.alloc (.cells #[.string ⟨#[97]⟩, .string ⟨#[120]⟩] 30) = W := ⟨_, rfl⟩
  obtain ⟨ga, hga⟩ : ∃ b, W3.heap.size = b := ⟨_, rfl⟩
  rw [hW4, hga] at HT2
  go_upto_region 4 with fail
  try rw [hW4]
  clear hW4 hga HT1
  have HE := Lib.hid (World.ownsRow_made (base := W4.heap.size) (e := 30) (size := 2) W4 #[] 0 (Nat.le_refl _) (by unfold maxLen; omega) rfl)
  have HBE := Lib.hid ((Below.refl W4.heap.size W4).alloc (Nat.le_refl _) (.cells #[] 30))
  have HSA := Lib.hid ((HT2.out.below HBE.out).p0.sees)
  go_wp2_with (at_builtin; refine wpList_append_sees rfl (.tmp 15) (.tmp 16) 31 rfl W4.heap.size 30 i0 (.agg #[.string ⟨#[]⟩, .string ⟨#[]⟩]) 2 32 Try.underlying31 hi0 hz0 hz1 hz2 rfl (by decide) (.slice (some ⟨W4.heap.size, 0, none⟩) 0 0) 0 [] rfl HE.out _ (some ⟨ga, 0, none⟩) 1 1 (lbls rrA) rfl HSA.out (lbls_one _) (by unfold maxLen; omega) (by omega) (by simp) ?_)
  intro v3 w3 hown3 hgr3
  obtain ⟨A3, c3, rfl, hc3, hc4⟩ := own_slice hown3
  have HB3 := Lib.hid (HBE.out.grown hgr3 (by simp) (by simp [Value.ownBlock]))
  try rw [List.nil_append, Nat.zero_add] at hown3
  have HB4 := Lib.hid (HB3.out.alloc HB3.out.size (.cells #[.string ⟨#[98]⟩, .string ⟨#[49]⟩] 30))
  have HO3 := Lib.hid (hown3.alloc (.cells #[.string ⟨#[98]⟩, .string ⟨#[49]⟩] 30))
  have HX := Lib.hid (show Sees (w3.alloc (.cells #[.string ⟨#[98]⟩, .string ⟨#[49]⟩] 30)) (w3.alloc (.cells #[.string ⟨#[98]⟩, .string ⟨#[49]⟩] 30)).heap.size 2 (some ⟨w3.heap.size, 0, none⟩) 1 (lbls rrB) from (Blk.mk (heap_alloc_new w3 _) : Blk _ w3.heap.size 30 [.string ⟨#[98]⟩, .string ⟨#[49]⟩]).sees rfl (List.prefix_refl _))
  have hbx : ∀ g, (Value.slice A3 1 c3).ownBlock = some g → W4.heap.size ≤ g := fun g hg => (HO3.out.lt g hg).1
  have HBX := Lib.hid hbx
  have hs3 := HB3.out.size
  clear hown3 hgr3 hbx HE HBE HSA HB3
  go_wp2_with (at_builtin; refine wpList_append_sees rfl (.tmp 17) (.tmp 19) 31 rfl W4.heap.size 30 i0 (.agg #[.string ⟨#[]⟩, .string ⟨#[]⟩]) 2 32 Try.underlying31 hi0 hz0 hz1 hz2 rfl (by decide) (.slice A3 1 c3) 1 (lbls rrA) rfl HO3.out _ _ 1 1 (lbls rrB) rfl HX.out (lbls_one _) (by unfold maxLen; omega) (by omega) (by simp; omega) ?_)
  intro v9 w9 hown9 hgr9
  obtain ⟨A9, c9, rfl, hc5, hc6⟩ := own_slice hown9
  have HB9 := Lib.hid (HB4.out.grown hgr9 (by simp; omega) HBX.out)
  have HT := Lib.hid ((HT2.out.below HB9.out).add (P := fun W => HasL W (.slice A9 2 c9) rrAB) (HasL.stay ⟨A9, c9, rfl, Sees.of_own (n := 2) (by rw [show lbls rrAB = lbls rrA ++ lbls rrB from rfl]; exact hown9), hc5, hc6⟩))
  clear hown9 hgr9 HB9 HB4 HO3 HX HBX HT2
  have HR1 : Hid (∀ V, Kept w [fun W => HasL W (.slice A9 2 c9) rrAB, fun W => HasL W (.slice (some ⟨ga, 0, none⟩) 1 1) rrA, fun W => Blk W bh 28 [.slice none 0 0, .string ⟨#[97, 108, 108]⟩, .bool false, .slice (some ⟨gk, 0, none⟩) 2 2], fun W => okAt 2 (rrT (.slice (some ⟨g1, 0, none⟩) 1 1) (.slice (some ⟨g2, 0, none⟩) 1 1) (.slice (some ⟨gk, 0, none⟩) 2 2)) W] V → Calls Try.prog 9 #[.agg #[.slice none 0 0, .string ⟨#[97, 108, 108]⟩, .bool false, .slice (some ⟨gk, 0, none⟩) 2 2], .slice A9 2 c9] V (StrsAns [⟨#[120]⟩, ⟨#[98]⟩] V)) := Lib.hid (fun V h => by
    have h1 := To_any (.slice A9 2 c9) rrAB 2 _ V h.p3 h.p0 (by rw [rr4]; omega : countF 2 (rrT (.slice (some ⟨g1, 0, none⟩) 1 1) (.slice (some ⟨g2, 0, none⟩) 1 1) (.slice (some ⟨gk, 0, none⟩) 2 2)) ≤ 1000000)
    rw [rr0, if_pos rfl, rr1] at h1; exact h1)
  have HR2 : Hid (∀ V, Kept w [fun W => HasL W (.slice A9 2 c9) rrAB, fun W => HasL W (.slice (some ⟨ga, 0, none⟩) 1 1) rrA, fun W => Blk W bh 28 [.slice none 0 0, .string ⟨#[97, 108, 108]⟩, .bool false, .slice (some ⟨gk, 0, none⟩) 2 2], fun W => okAt 2 (rrT (.slice (some ⟨g1, 0, none⟩) 1 1) (.slice (some ⟨g2, 0, none⟩) 1 1) (.slice (some ⟨gk, 0, none⟩) 2 2)) W] V → Calls Try.prog 9 #[.agg #[.slice none 0 0, .string ⟨#[97, 108, 108]⟩, .bool false, .slice (some ⟨gk, 0, none⟩) 2 2], .slice (some ⟨ga, 0, none⟩) 1 1] V (StrsAns [⟨#[120]⟩] V)) := Lib.hid (fun V h => by
    have h1 := To_any (.slice (some ⟨ga, 0, none⟩) 1 1) rrA 2 _ V h.p3 h.p1 (by rw [rr4]; omega : countF 2 (rrT (.slice (some ⟨g1, 0, none⟩) 1 1) (.slice (some ⟨g2, 0, none⟩) 1 1) (.slice (some ⟨gk, 0, none⟩) 2 2)) ≤ 1000000)
    rw [rr0, if_pos rfl, rr2] at h1; exact h1)
  have HR3 : Hid (∀ V, Kept w [fun W => HasL W (.slice A9 2 c9) rrAB, fun W => HasL W (.slice (some ⟨ga, 0, none⟩) 1 1) rrA, fun W => Blk W bh 28 [.slice none 0 0, .string ⟨#[97, 108, 108]⟩, .bool false, .slice (some ⟨gk, 0, none⟩) 2 2], fun W => okAt 2 (rrT (.slice (some ⟨g1, 0, none⟩) 1 1) (.slice (some ⟨g2, 0, none⟩) 1 1) (.slice (some ⟨gk, 0, none⟩) 2 2)) W] V → Calls Try.prog 9 #[.agg #[.slice none 0 0, .string ⟨#[97, 108, 108]⟩, .bool false, .slice (some ⟨gk, 0, none⟩) 2 2], .slice none 0 0] V (StrsAns [⟨#[97, 108, 108]⟩] V)) := Lib.hid (fun V h => by
    have h1 := To_any (.slice none 0 0) [] 2 _ V h.p3 ⟨none, 0, rfl, Sees.nil, Nat.le_refl _, by simp⟩ (by rw [rr4]; omega : countF 2 (rrT (.slice (some ⟨g1, 0, none⟩) 1 1) (.slice (some ⟨g2, 0, none⟩) 1 1) (.slice (some ⟨gk, 0, none⟩) 2 2)) ≤ 1000000)
    rw [rr0, if_pos rfl, rr3] at h1; exact h1)
  have HR4 : Hid (∀ V, Kept w [fun W => HasL W (.slice A9 2 c9) rrAB, fun W => HasL W (.slice (some ⟨ga, 0, none⟩) 1 1) rrA, fun W => Blk W bh 28 [.slice none 0 0, .string ⟨#[97, 108, 108]⟩, .bool false, .slice (some ⟨gk, 0, none⟩) 2 2], fun W => okAt 2 (rrT (.slice (some ⟨g1, 0, none⟩) 1 1) (.slice (some ⟨g2, 0, none⟩) 1 1) (.slice (some ⟨gk, 0, none⟩) 2 2)) W] V → Calls Try.prog 10 #[.agg #[.slice none 0 0, .string ⟨#[97, 108, 108]⟩, .bool false, .slice (some ⟨gk, 0, none⟩) 2 2]] V fun e w' => e = .returned (.int .i64 3) ∧ Below V.heap.size V w') := Lib.hid (fun V h => count_any 2 _ V h.p3 (by rw [rr4]; omega : countF 2 (rrT (.slice (some ⟨g1, 0, none⟩) 1 1) (.slice (some ⟨g2, 0, none⟩) 1 1) (.slice (some ⟨gk, 0, none⟩) 2 2)) ≤ 1000000))
  have HS1 : Hid (∀ (V : World) (A : Option Addr) (c : Nat), Slc V 1 (.slice A 2 c) 2 (strs [⟨#[120]⟩, ⟨#[98]⟩]) → Calls Try.prog 8 #[.slice A 2 c, .slice (some ⟨V.heap.size, 0, none⟩) 2 2] (V.alloc (.cells #[.string ⟨#[120]⟩, .string ⟨#[98]⟩] 9)) fun e w' => e = .returned (.bool true) ∧ Below V.heap.size V w') := Lib.hid (fun V A c h =>
    (same_texts (L := [⟨#[120]⟩, ⟨#[98]⟩]) (M := [⟨#[120]⟩, ⟨#[98]⟩]) h (by decide) (by decide)).mono fun e w' hh => ⟨hh.1.trans (by rw [decide_eq_true rfl]), hh.2⟩)
  have HS2 : Hid (∀ (x : ByteArray) (V : World) (A : Option Addr) (c : Nat), Slc V 1 (.slice A 1 c) 1 (strs [x]) → Calls Try.prog 8 #[.slice A 1 c, .slice (some ⟨V.heap.size, 0, none⟩) 1 1] (V.alloc (.cells #[.string x] 9)) fun e w' => e = .returned (.bool true) ∧ Below V.heap.size V w') := Lib.hid (fun x V A c h =>
    (same_texts (L := [x]) (M := [x]) h (by simp) (by simp)).mono fun e w' hh => ⟨hh.1.trans (by rw [decide_eq_true rfl]), hh.2⟩)
  have b0 := HT.out.p2.cell 0; have b1 := HT.out.p2.cell 1; have b2 := HT.out.p2.cell 2; have b3 := HT.out.p2.cell 3; have b4 := HT.out.p2.lt
  simp only [List.getElem?_cons_zero, List.getElem?_cons_succ] at b0 b1 b2 b3
  go_wp2_with fail
  (with_reducible refine (HR1.out _ HT.out).mono ?_); rintro e wq hh; obtain ⟨A5, c5, rfl, hs5, hbq⟩ := slc_ans hh
  have HT_n := Lib.hid (HT.out.below hbq); clear HT; have HT := HT_n; clear HT_n
  clear hbq hh b0 b1 b2 b3 b4
  go_wp2_with fail
  (with_reducible refine (HS1.out _ _ _ hs5).mono ?_); rintro e wq2 ⟨rfl, hbq⟩
  have HT_n := Lib.hid (HT.out.below hbq); clear HT; have HT := HT_n; clear HT_n
  clear hbq hs5
  have b0 := HT.out.p2.cell 0; have b1 := HT.out.p2.cell 1; have b2 := HT.out.p2.cell 2; have b3 := HT.out.p2.cell 3; have b4 := HT.out.p2.lt
  simp only [List.getElem?_cons_zero, List.getElem?_cons_succ] at b0 b1 b2 b3
  go_wp2_with fail
  (with_reducible refine (HR2.out _ HT.out).mono ?_); rintro e wq3 hh; obtain ⟨A6, c6, rfl, hs6, hbq⟩ := slc_ans hh
  have HT_n := Lib.hid (HT.out.below hbq); clear HT; have HT := HT_n; clear HT_n
  clear hbq hh b0 b1 b2 b3 b4
  go_wp2_with fail
  (with_reducible refine (HS2.out _ _ _ _ hs6).mono ?_); rintro e wq4 ⟨rfl, hbq⟩
  have HT_n := Lib.hid (HT.out.below hbq); clear HT; have HT := HT_n; clear HT_n
  clear hbq hs6
  have b0 := HT.out.p2.cell 0; have b1 := HT.out.p2.cell 1; have b2 := HT.out.p2.cell 2; have b3 := HT.out.p2.cell 3; have b4 := HT.out.p2.lt
  simp only [List.getElem?_cons_zero, List.getElem?_cons_succ] at b0 b1 b2 b3
  go_wp2_with fail
  (with_reducible refine (HR3.out _ HT.out).mono ?_); rintro e wq5 hh; obtain ⟨A7, c7, rfl, hs7, hbq⟩ := slc_ans hh
  have HT_n := Lib.hid (HT.out.below hbq); clear HT; have HT := HT_n; clear HT_n
  clear hbq hh b0 b1 b2 b3 b4
  go_wp2_with fail
  (with_reducible refine (HS2.out _ _ _ _ hs7).mono ?_); rintro e wq6 ⟨rfl, hbq⟩
  have HT_n := Lib.hid (HT.out.below hbq); clear HT; have HT := HT_n; clear HT_n
  clear hbq hs7
  have b0 := HT.out.p2.cell 0; have b1 := HT.out.p2.cell 1; have b2 := HT.out.p2.cell 2; have b3 := HT.out.p2.cell 3; have b4 := HT.out.p2.lt
  simp only [List.getElem?_cons_zero, List.getElem?_cons_succ] at b0 b1 b2 b3
  go_wp2_with fail
  (with_reducible refine (HR4.out _ HT.out).mono ?_); rintro e wq7 ⟨rfl, hbq⟩
  have HT_n := Lib.hid (HT.out.below hbq); clear HT; have HT := HT_n; clear HT_n
  clear hbq b0 b1 b2 b3 b4
  go_wp2_with fail
  go_ret
  exact ⟨rfl, HT.out.bel⟩
end Go.Proofs.Ytddkkfjgdfdcnaa
