/- LsetTells. -/
import Derived.Test.YtjpjpcockhmbeaaLsetRuns
import Derived.Test.YtjpjpcockhmbeaaRefSet
import Derived.Test.YtjpjpcockhmbeaaGetF
import Derived.Test.YtjpjpcockhmbeaaRoomyLbl
import Derived.Test.YtjpjpcockhmbeaaOwnNe
namespace Go.Proofs.Ytjpjpcockhmbeaa
open Go.ChangeShapes Go.WideShapes Go.ChangeAt Go.RowKit
set_option linter.unusedVariables false
set_option linter.unusedSimpArgs false
set_option maxRecDepth 100000
theorem Try.infoStrT : (Try.prog.info? 9).map (fun i => (i.zero, i.size, i.bytes)) = some (some (.string ⟨#[]⟩), 1, 16) := by kernel_rfl
theorem strs_take' (l : List ByteArray) (k : Nat) : (strs l).take k = strs (l.take k) := by simp [strs, List.map_take]
theorem strs_one' (l : List ByteArray) : ∀ u ∈ strs l, u.oneCell' = true := by
  intro u hu
  simp only [strs, List.mem_map] at hu
  obtain ⟨x, _, rfl⟩ := hu
  rfl
/-- What is kept and dropped, growing; labels and names as they were. -/
structure KdAt (B : Nat) (X : Option Addr) (k : Nat) (own : List (ByteArray × ByteArray)) (Y : Option Addr) (k2 : Nat) (ns : List ByteArray) (vk : Value) (kl : List (ByteArray × ByteArray)) (vd : Value) (dl : List (ByteArray × ByteArray)) (w0 V : World) : Prop where
  l : Sees V B 2 X k (lbls own)
  n : Sees V B 1 Y k2 (strs ns)
  kp : V.ownsRow B 25 2 vk kl.length (lbls kl)
  dp : V.ownsRow B 25 2 vd dl.length (lbls dl)
  ne : ∀ g, vk.ownBlock = some g → vd.ownBlock ≠ some g
  bel : Below w0.heap.size w0 V
  lt : B ≤ V.heap.size
  le : w0.heap.size ≤ B
section
variable {B : Nat} {X Y : Option Addr} {k k2 : Nat} {own kl dl : List (ByteArray × ByteArray)} {ns : List ByteArray} {vk vd v' : Value} {w0 V V' : World}
theorem KdAt.below (h : KdAt B X k own Y k2 ns vk kl vd dl w0 V) (hb : Below V.heap.size V V') : KdAt B X k own Y k2 ns vk kl vd dl w0 V' :=
  ⟨h.l.below (hb.mono h.lt), h.n.below (hb.mono h.lt), own_below h.kp hb (Nat.le_refl _), own_below h.dp hb (Nat.le_refl _), h.ne, h.bel.trans (hb.mono (Nat.le_trans h.le h.lt)), Nat.le_trans h.lt hb.size, h.le⟩
theorem KdAt.alloc (h : KdAt B X k own Y k2 ns vk kl vd dl w0 V) (o : Obj) : KdAt B X k own Y k2 ns vk kl vd dl w0 (V.alloc o) := h.below ((Below.refl _ _).alloc (Nat.le_refl _) o)
theorem KdAt.swap (h : KdAt B X k own Y k2 ns vk kl vd dl w0 V) : KdAt B X k own Y k2 ns vd dl vk kl w0 V := ⟨h.l, h.n, h.dp, h.kp, fun g hg e => h.ne g e hg, h.bel, h.lt, h.le⟩
theorem KdAt.keep (h : KdAt B X k own Y k2 ns vk kl vd dl w0 V) {a b : ByteArray} (hown : V'.ownsRow B 25 2 v' (kl.length + 1) (lbls kl ++ [.string a, .string b])) (hg : V.grownBy V' vk.ownBlock) (hw : Where V vk v') : KdAt B X k own Y k2 ns v' (kl ++ [(a, b)]) vd dl w0 V' := by
  have hr : ∀ g, vk.ownBlock = some g → B ≤ g := fun g hg => (h.kp.lt g hg).1
  refine ⟨h.l.grown hg h.lt hr, h.n.grown hg h.lt hr, by rw [List.length_append, lbls_append]; exact hown, own_grown h.dp hg (fun g hg e => h.ne g e hg), fun g hg e => ?_, h.bel.grown hg (Nat.le_trans h.le h.lt) (fun g hg => Nat.le_trans h.le (hr g hg)), Nat.le_trans h.lt hg.size, h.le⟩
  exact hw.apart (u := vd) (fun q hq => ⟨(h.dp.lt q hq).2, fun e => h.ne q e hq⟩) g e hg
end
/-- All rows, read alone. -/
structure LtAt (B : Nat) (X : Option Addr) (k : Nat) (own : List (ByteArray × ByteArray)) (Y : Option Addr) (k2 : Nat) (ns : List ByteArray) (KA : Option Addr) (nk : Nat) (kl : List (ByteArray × ByteArray)) (DA : Option Addr) (nd : Nat) (dl : List (ByteArray × ByteArray)) (w0 V : World) : Prop where
  l : Sees V B 2 X k (lbls own)
  n : Sees V B 1 Y k2 (strs ns)
  kp : Sees V B 2 KA nk (lbls kl)
  dp : Sees V B 2 DA nd (lbls dl)
  bel : Below w0.heap.size w0 V
  lt : B ≤ V.heap.size
  le : w0.heap.size ≤ B
theorem LtAt.below {B : Nat} {X Y KA DA : Option Addr} {k k2 nk nd : Nat} {own kl dl : List (ByteArray × ByteArray)} {ns : List ByteArray} {w0 V V' : World} (h : LtAt B X k own Y k2 ns KA nk kl DA nd dl w0 V) (hb : Below V.heap.size V V') : LtAt B X k own Y k2 ns KA nk kl DA nd dl w0 V' :=
  ⟨h.l.below (hb.mono h.lt), h.n.below (hb.mono h.lt), h.kp.below (hb.mono h.lt), h.dp.below (hb.mono h.lt), h.bel.trans (hb.mono (Nat.le_trans h.le h.lt)), Nat.le_trans h.lt hb.size, h.le⟩
/-- .. and the roomy copy. -/
structure LuAt (B : Nat) (X : Option Addr) (k : Nat) (own : List (ByteArray × ByteArray)) (Y : Option Addr) (k2 : Nat) (ns : List ByteArray) (KA : Option Addr) (nk : Nat) (kl : List (ByteArray × ByteArray)) (DA : Option Addr) (nd : Nat) (dl : List (ByteArray × ByteArray)) (g : Nat) (w0 V : World) : Prop where
  t : LtAt B X k own Y k2 ns KA nk kl DA nd dl w0 V
  f : Sees V B 2 (some ⟨g, 0, none⟩) (k + 80) (lbls (own ++ List.replicate 80 ((⟨#[113]⟩ : ByteArray), (⟨#[]⟩ : ByteArray))))
section
variable {B B' : Nat} {X Y KA DA : Option Addr} {k k2 nk nd g : Nat} {own kl dl : List (ByteArray × ByteArray)} {ns : List ByteArray} {w0 V V' : World}
theorem LtAt.more (h : LtAt B X k own Y k2 ns KA nk kl DA nd dl w0 V) (h1 : B ≤ B') (h2 : B' ≤ V.heap.size) : LtAt B' X k own Y k2 ns KA nk kl DA nd dl w0 V := ⟨h.l.more h1, h.n.more h1, h.kp.more h1, h.dp.more h1, h.bel, h2, Nat.le_trans h.le h1⟩
theorem LuAt.below (h : LuAt B X k own Y k2 ns KA nk kl DA nd dl g w0 V) (hb : Below V.heap.size V V') : LuAt B X k own Y k2 ns KA nk kl DA nd dl g w0 V' := ⟨h.t.below hb, h.f.below (hb.mono h.t.lt)⟩
theorem LuAt.drewN (h : LuAt B X k own Y k2 ns KA nk kl DA nd dl g w0 V) (m : Nat) : LuAt B X k own Y k2 ns KA nk kl DA nd dl g w0 (V.drewN m) := by
  refine h.below ?_
  induction m with
  | zero => exact Below.refl _ _
  | succ m ih => exact ih.drew
theorem LuAt.alloc (h : LuAt B X k own Y k2 ns KA nk kl DA nd dl g w0 V) (o : Obj) : LuAt B X k own Y k2 ns KA nk kl DA nd dl g w0 (V.alloc o) := h.below ((Below.refl _ _).alloc (Nat.le_refl _) o)
end
theorem right_single (x : ByteArray) : rightS [(x, ⟨#[120]⟩)] = wordF x := by
  have h1 : (⟨#[120]⟩ : ByteArray).size = 1 := rfl
  simp only [rightS, rightK, riseAt, lblAt, List.length_cons, List.length_nil]
  simp [lblOk, h1]
theorem hasS_snoc (l : List ByteArray) (x a : ByteArray) : hasS (l ++ [x]) a = (hasS l a || decide (x = a)) := by
  unfold hasS; rw [List.any_append]; simp
set_option maxHeartbeats 8000000 in
theorem lset_tells (AL : Option Addr) (nl cl : Nat) (ls : List (ByteArray × ByteArray)) (name : ByteArray) (AN : Option Addr) (nn cn : Nat) (nms : List ByteArray) (w : World)
    (hL : Sees w w.heap.size 2 AL nl (lbls ls)) (hlc : nl ≤ cl) (hcl : cl ≤ 9223372036854775807) (hls : ∀ x ∈ ls, x.1.size ≤ 9223372036854775807) (hnm : name.size ≤ 1048576)
    (hN : Sees w w.heap.size 1 AN nn (strs nms)) (hnc : nn ≤ cn) (hcn : cn ≤ 9223372036854775807) :
    Calls Try.prog 3 #[.slice AL nl cl, .string name, .slice AN nn cn] w fun e w' => e = .returned (.bool true) ∧ Below w.heap.size w w' := by
  obtain ⟨i0, hi0, hz0, hz1, hz2⟩ := info_parts Try.infoLabel
  obtain ⟨i1, hi1, hy0, hy1, hy2⟩ := info_parts Try.infoStrT
  obtain ⟨k, hk⟩ : ∃ k, min nl 8 = k := ⟨_, rfl⟩
  obtain ⟨k2, hk2⟩ : ∃ k, min nn 4 = k := ⟨_, rfl⟩
  have hkn : k ≤ nl := by omega
  have hk8 : k ≤ 8 := by omega
  have hkn2 : k2 ≤ nn := by omega
  have hk28 : k2 ≤ 4 := by omega
  have m1 : min (nl : Int) 8 = (k : Int) := by omega
  have m1' : (if (8 : Int) < nl then 8 else (nl : Int)) = (k : Int) := by rw [← m1]; split <;> omega
  have m2 : min (nn : Int) 4 = (k2 : Int) := by omega
  have m2' : (if (4 : Int) < nn then 4 else (nn : Int)) = (k2 : Int) := by rw [← m2]; split <;> omega
  have y1 : (k : Int) ≤ cl := by omega
  have y2 : (k2 : Int) ≤ cn := by omega
  have y3 : (0 : Int) ≤ k := by omega
  have y4 : (0 : Int) ≤ k2 := by omega
  have HSL := Lib.hid (show Sees w w.heap.size 2 AL k (lbls (ls.take k)) by have h := hL.take hkn; rwa [lbls_take] at h)
  have HSN := Lib.hid (show Sees w w.heap.size 1 AN k2 (strs (nms.take k2)) by have h := hN.take hkn2; rwa [Nat.mul_one, strs_take'] at h)
  have HOL := Lib.hid (show (ls.take k).length = k by rw [List.length_take, hL.lbl_len]; omega)
  have HOZ : Hid (∀ x ∈ ls.take k, x.1.size ≤ 9223372036854775807) := Lib.hid (fun x hx => hls x (List.mem_of_mem_take hx))
  have HNL := Lib.hid (show (nms.take k2).length = k2 by have := hN.len; rw [List.length_take]; simp [strs] at this; omega)
  have HNM := Lib.hid hnm
  clear hL hN hls hk hk2 hnm
  generalize ls.take k = own at *
  generalize nms.take k2 = ns at *
  have HE0 : Hid ((w.alloc (.cells #[] 25)).ownsRow w.heap.size 25 2 (.slice (some ⟨w.heap.size, 0, none⟩) 0 0) 0 []) := Lib.hid (World.ownsRow_made w #[] 0 (Nat.le_refl _) (by unfold maxLen; omega) rfl)
  have HB0 := Lib.hid ((Below.refl w.heap.size w).alloc (Nat.le_refl _) (.cells #[] 25))
  go_enter Try.func3, Try.ntmps3
  go_upto_region 1 with fail
  go_wp2_with (at_builtin; refine wpList_append_at rfl (.tmp 18) (.tmp 23) 22 rfl w.heap.size 25 i0 (.agg #[.string ⟨#[]⟩, .string ⟨#[]⟩]) 2 32 Try.underlying22 hi0 hz0 hz1 hz2 rfl (by decide) (.slice (some ⟨w.heap.size, 0, none⟩) 0 0) 0 [] rfl HE0.out _ AL k cl (lbls own) rfl (HSL.out.below HB0.out) (lbls_one _) (by unfold maxLen; omega) (by omega) (by simp) ?_)
  intro v1 w1 hown1 hgr1 hwh1
  obtain ⟨X, cx, rfl, hxc, hxm⟩ := own_slice hown1
  try rw [Nat.zero_add] at hown1
  try rw [List.nil_append] at hown1
  try rw [Nat.zero_add] at hxc
  have HS1 := Lib.hid (Sees.of_own hown1)
  have HB1 := Lib.hid (HB0.out.grown hgr1 (by simp) (by simp [Value.ownBlock]))
  have HN1 := Lib.hid ((HSN.out.below HB1.out))
  clear hown1 hgr1 hwh1 HE0 HB0 HSL HSN m1 m1' y1
  have HE1 : Hid ((w1.alloc (.cells #[] 9)).ownsRow w1.heap.size 9 1 (.slice (some ⟨w1.heap.size, 0, none⟩) 0 0) 0 []) := Lib.hid (World.ownsRow_made w1 #[] 0 (Nat.le_refl _) (by unfold maxLen; omega) rfl)
  have HBX := Lib.hid ((Below.refl w1.heap.size w1).alloc (Nat.le_refl _) (.cells #[] 9))
  go_upto_region 2 with fail
  go_wp2_with (at_builtin; refine wpList_append_at rfl (.tmp 25) (.tmp 30) 23 rfl w1.heap.size 9 i1 (.string ⟨#[]⟩) 1 16 Try.underlying23 hi1 hy0 hy1 hy2 rfl (by decide) (.slice (some ⟨w1.heap.size, 0, none⟩) 0 0) 0 [] rfl HE1.out _ AN k2 cn (strs ns) rfl ((HN1.out.more HB1.out.size).below HBX.out) (strs_one' _) (by unfold maxLen; omega) (by omega) (by simp) ?_)
  intro v2 w2 hown2 hgr2 hwh2
  obtain ⟨Y, cy, rfl, hyc, hym⟩ := own_slice hown2
  try rw [Nat.zero_add] at hown2
  try rw [List.nil_append] at hown2
  try rw [Nat.zero_add] at hyc
  have HBY := Lib.hid (HBX.out.grown hgr2 (by simp) (by simp [Value.ownBlock]))
  have HK2 := Lib.hid (show KdAt w2.heap.size X k own Y k2 ns (.slice none 0 0) [] (.slice none 0 0) [] w w2 from
    ⟨(HS1.out.below HBY.out).more HBY.out.size, Sees.of_own hown2, World.ownsRow_nil _ _ _ _, World.ownsRow_nil _ _ _ _, fun g hg => by simp [Value.ownBlock] at hg, HB1.out.trans (HBY.out.mono HB1.out.size), Nat.le_refl _, Nat.le_trans HB1.out.size HBY.out.size⟩)
  clear hown2 hgr2 hwh2 HE1 HBX HS1 HN1 HB1 HBY m2 m2' y2
  generalize w2.heap.size = B at *
  go_wp2_with fail
  go_loopg [9, 10, 12, 13, 15, 34] k (fun g x9 x10 x12 x13 x15 x34 wr => ∃ (i : Nat) (KA : Option Addr) (nk ck : Nat) (DA : Option Addr) (nd cd : Nat), i + g = k ∧ x34 = .int .i64 i ∧ x9 = .slice KA nk ck ∧ x10 = .slice DA nd cd ∧ KdAt B X k own Y k2 ns (.slice KA nk ck) ((own.take i).filter fun x => hasS ns x.1) (.slice DA nd cd) ((own.take i).filter fun x => !hasS ns x.1) w wr)
  case atStart => exact ⟨0, none, 0, 0, none, 0, 0, by omega, rfl, rfl, rfl, HK2.out⟩
  case round =>
    obtain ⟨i, KA, nk, ck, DA, nd, cd, hig, rfl, rfl, rfl, hkd⟩ := hrel
    have HKD := Lib.hid hkd
    clear hkd HK2
    cases gk with
    | zero =>
      obtain rfl : i = k := by omega
      obtain ⟨kl, hkl⟩ : ∃ l, own.filter (fun x => hasS ns x.1) = l := ⟨_, rfl⟩
      obtain ⟨dl, hdl⟩ : ∃ l, own.filter (fun x => !hasS ns x.1) = l := ⟨_, rfl⟩
      have htk : own.take i = own := List.take_of_length_le (by rw [HOL.out]; exact Nat.le_refl _)
      rw [htk, hkl, hdl] at HKD
      have hkz : kl.length ≤ 8 := by rw [← hkl]; have := List.length_filter_le (fun x => hasS ns x.1) own; have := HOL.out; omega
      have hdz : dl.length ≤ 8 := by rw [← hdl]; have := List.length_filter_le (fun x => !hasS ns x.1) own; have := HOL.out; omega
      obtain ⟨KA2, ck2, ek, hkc, hkm⟩ := own_slice HKD.out.kp
      obtain ⟨DA2, cd2, ed, hdc, hdm⟩ := own_slice HKD.out.dp
      injection ek with ek1 ek2 ek3
      injection ed with ed1 ed2 ed3
      subst ek1 ek2 ek3 ed1 ed2 ed3
      have HLT := Lib.hid (show LtAt wr.heap.size X i own Y k2 ns KA kl.length kl DA dl.length dl w wr from
        ⟨HKD.out.l.more HKD.out.lt, HKD.out.n.more HKD.out.lt, Sees.of_own HKD.out.kp, Sees.of_own HKD.out.dp, HKD.out.bel, Nat.le_refl _, Nat.le_trans HKD.out.le HKD.out.lt⟩)
      have HKL := Lib.hid hkl
      have HDL := Lib.hid hdl
      clear HKD htk hkl hdl
      generalize wr.heap.size = B2 at *
      have HPS := Lib.hid (roomy_lbl X i cx B2 own ⟨#[113]⟩ ⟨#[]⟩ wr HLT.out.l HLT.out.lt (by omega))
      go_wp2_with fail
      (with_reducible refine HPS.out.mono ?_); rintro e w3 ⟨g3, rfl, hg3, hbk3, hb3⟩
      have HU3 := Lib.hid (show LuAt w3.heap.size X i own Y k2 ns KA kl.length kl DA dl.length dl g3 w w3 from ⟨(HLT.out.below hb3).more (Nat.le_trans HLT.out.lt hb3.size) (Nat.le_refl _), hbk3.sees (size := 2) (n := i + 80) (by rw [lbls_length, List.length_append, List.length_replicate, HOL.out]) (List.prefix_refl _)⟩)
      clear hg3 hbk3 hb3 HPS HLT
      have HW3 := Lib.hid (Blk.mk (heap_alloc_new w3 (.cells #[.string name, .string ⟨#[120]⟩] 25)) : Blk _ w3.heap.size 25 [.string name, .string ⟨#[120]⟩])
      have HR3 := Lib.hid (refRight_any (some ⟨w3.heap.size, 0, none⟩) 1 1 [(name, ⟨#[120]⟩)] (w3.alloc (.cells #[.string name, .string ⟨#[120]⟩] 25)).heap.size (w3.alloc (.cells #[.string name, .string ⟨#[120]⟩] 25)) (HW3.out.sees rfl (List.prefix_refl _)) (Nat.le_refl _) (by omega) (fun x hx => by
        rw [List.mem_singleton] at hx; subst hx; have := HNM.out; show name.size ≤ _; omega))
      have HU3' := Lib.hid (HU3.out.alloc (.cells #[.string name, .string ⟨#[120]⟩] 25))
      go_wp2_with fail
      (with_reducible refine HR3.out.mono ?_); rintro e w4 ⟨rfl, hb4⟩
      have HU4 := Lib.hid (HU3'.out.below hb4)
      rw [right_single]
      clear hb4 HR3 HU3 HU3' HW3
      obtain ⟨wd, hwd⟩ : ∃ b, wordF name = b := ⟨_, rfl⟩
      rw [hwd]
      have HWD := Lib.hid hwd
      clear hwd
      generalize w3.heap.size = b3 at *
      have y5 : (i : Int) ≤ (i : Int) + 80 := by omega
      have y6 : (0 : Int) ≤ i := by omega
      obtain ⟨rr, hrr⟩ : ∃ b, rightS own = b := ⟨_, rfl⟩
      have hR1 := fun W (h : LuAt b3 X i own Y k2 ns KA kl.length kl DA dl.length dl g3 w W) => rightSet_any X i cx own b3 W h.t.l h.t.lt (by omega)
      have hR2 := fun W (h : LuAt b3 X i own Y k2 ns KA kl.length kl DA dl.length dl g3 w W) => refRight_any X i cx own b3 W h.t.l h.t.lt (by omega) HOZ.out
      rw [hrr] at hR1 hR2
      have HR1 := Lib.hid hR1
      have HR2 := Lib.hid hR2
      clear hR1 hR2 hrr
      obtain ⟨PS, hps⟩ : ∃ s : ByteArray, (⟨(printL own).toArray⟩ : ByteArray) = s := ⟨_, rfl⟩
      have hP1 := fun W (h : LuAt b3 X i own Y k2 ns KA kl.length kl DA dl.length dl g3 w W) => print_any (some ⟨g3, 0, none⟩) i (i + 80) own b3 W (by
        have h1 := h.f.take (k := i) (by omega)
        rwa [lbls_take, List.take_append_of_le_length (by rw [HOL.out]; exact Nat.le_refl _), List.take_of_length_le (by rw [HOL.out]; exact Nat.le_refl _)] at h1) h.t.lt (by omega)
      have hP2 := fun W (h : LuAt b3 X i own Y k2 ns KA kl.length kl DA dl.length dl g3 w W) => rprint_any X i cx own b3 W h.t.l h.t.lt (by omega) HOZ.out
      rw [hps] at hP1 hP2
      have HP1 := Lib.hid hP1
      have HP2 := Lib.hid hP2
      clear hP1 hP2 hps
      obtain ⟨gv, hgv⟩ : ∃ s, getF own name = s := ⟨_, rfl⟩
      have hG1 := fun W (h : LuAt b3 X i own Y k2 ns KA kl.length kl DA dl.length dl g3 w W) => get_any X i cx b3 own name W h.t.l h.t.lt (by omega)
      have hG2 := fun W (h : LuAt b3 X i own Y k2 ns KA kl.length kl DA dl.length dl g3 w W) => refGet_any X i cx b3 own name W h.t.l h.t.lt (by omega)
      rw [hgv] at hG1 hG2
      have HG1 := Lib.hid hG1
      have HG2 := Lib.hid hG2
      clear hG1 hG2 hgv
      have hK1 := fun W (h : LuAt b3 X i own Y k2 ns KA kl.length kl DA dl.length dl g3 w W) => keep_any X Y i cx k2 cy b3 b3 own ns W h.t.l h.t.lt (by omega) h.t.n h.t.lt (by omega)
      have hD1 := fun W (h : LuAt b3 X i own Y k2 ns KA kl.length kl DA dl.length dl g3 w W) => drop_any X Y i cx k2 cy b3 b3 own ns W h.t.l h.t.lt (by omega) h.t.n h.t.lt (by omega)
      rw [HKL.out] at hK1
      rw [HDL.out] at hD1
      have HK1 := Lib.hid hK1
      have HD1 := Lib.hid hD1
      clear hK1 hD1
      obtain ⟨QS, hqs⟩ : ∃ s : ByteArray, (⟨(quoteL name.data.toList).toArray⟩ : ByteArray) = s := ⟨_, rfl⟩
      have hQ1 := fun W => lquote_any name W (by have := HNM.out; omega)
      have hQ2 := fun W => rquote_any name W (by have := HNM.out; omega)
      rw [hqs] at hQ1 hQ2
      have HQ1 := Lib.hid hQ1
      have HQ2 := Lib.hid hQ2
      clear hQ1 hQ2 hqs
      have t1 : (rr == rr) = true := by simp
      have t2 : (PS.toList == PS.toList) = true := by simp
      have t3 : (gv.toList == gv.toList) = true := by simp
      have t4 : (wd == wd) = true := by simp
      have t5 : (QS.toList == QS.toList) = true := by simp
      go_wp2_with fail
      (with_reducible refine (HR1.out _ HU4.out).mono ?_); rintro e w5 ⟨rfl, hb⟩
      have HU5 := Lib.hid (HU4.out.below hb); clear hb HU4
      go_wp2_with fail
      (with_reducible refine (HR2.out _ HU5.out).mono ?_); rintro e w6 ⟨rfl, hb⟩
      have HU6 := Lib.hid (HU5.out.below hb); clear hb HU5
      go_wp2_with fail
      (with_reducible refine (HP1.out _ HU6.out).mono ?_); rintro e w7 ⟨rfl, hb⟩
      have HU7 := Lib.hid (HU6.out.below hb); clear hb HU6
      go_wp2_with fail
      (with_reducible refine (HP2.out _ HU7.out).mono ?_); rintro e w8 ⟨rfl, hb⟩
      have HU8 := Lib.hid (HU7.out.below hb); clear hb HU7
      go_wp2_with fail
      (with_reducible refine (HG1.out _ HU8.out).mono ?_); rintro e w9 ⟨rfl, hb⟩
      have HU9 := Lib.hid (HU8.out.below hb); clear hb HU8
      go_wp2_with fail
      (with_reducible refine (HG2.out _ HU9.out).mono ?_); rintro e w10 ⟨rfl, hb⟩
      have HU10 := Lib.hid (HU9.out.below hb); clear hb HU9
      go_wp2_with fail
      (with_reducible refine (HK1.out _ HU10.out).mono ?_); rintro e w11 ⟨A11, c11, rfl, hown, hb, hac, hcm⟩
      have HU11 := Lib.hid (HU10.out.below hb)
      have HSM := Lib.hid (same_lbl A11 KA kl.length c11 kl.length ck _ b3 kl kl w11 (Sees.of_own hown) HU11.out.t.kp (by omega) (by omega))
      rw [decide_eq_true rfl] at HSM
      clear hb hown HU10
      go_wp2_with fail
      (with_reducible refine HSM.out.mono ?_); rintro e w12 ⟨rfl, m, rfl⟩
      have HU12 := Lib.hid (HU11.out.drewN m)
      clear HSM HU11
      generalize w11.drewN m = w12 at *
      go_wp2_with fail
      (with_reducible refine (HD1.out _ HU12.out).mono ?_); rintro e w13 ⟨A13, c13, rfl, hown, hb, hac, hcm⟩
      have HU13 := Lib.hid (HU12.out.below hb)
      have HSM := Lib.hid (same_lbl A13 DA dl.length c13 dl.length cd _ b3 dl dl w13 (Sees.of_own hown) HU13.out.t.dp (by omega) (by omega))
      rw [decide_eq_true rfl] at HSM
      clear hb hown HU12
      go_wp2_with fail
      (with_reducible refine HSM.out.mono ?_); rintro e w14 ⟨rfl, m, rfl⟩
      have HU14 := Lib.hid (HU13.out.drewN m)
      clear HSM HU13
      generalize w13.drewN m = w14 at *
      have HWA := Lib.hid (word_any name w14)
      rw [HWD.out] at HWA
      go_wp2_with fail
      (with_reducible refine HWA.out.mono ?_); rintro e w15 ⟨rfl, rfl⟩
      go_wp2_with fail
      (with_reducible refine (HQ1.out _).mono ?_); rintro e w16 ⟨rfl, hb⟩
      have HU16 := Lib.hid (HU14.out.below hb); clear hb HU14 HWA
      go_wp2_with fail
      (with_reducible refine (HQ2.out _).mono ?_); rintro e w17 ⟨rfl, hb⟩
      have HU17 := Lib.hid (HU16.out.below hb); clear hb HU16
      have HIN := Lib.hid (intact_lbl (some ⟨g3, 0, none⟩) X i (i + 80) cx own ⟨#[113]⟩ ⟨#[]⟩ w17 (HU17.out.f.more HU17.out.t.lt) (HU17.out.t.l.more HU17.out.t.lt) (Nat.le_refl _) (by omega))
      go_wp2_with fail
      (with_reducible refine HIN.out.mono ?_); rintro e w18 ⟨rfl, hb⟩
      have HU18 := Lib.hid (HU17.out.below hb); clear hb HU17 HIN
      have HLR := Lib.hid (lset_runs w18)
      go_wp2_with fail
      (with_reducible refine HLR.out.mono ?_); rintro e w19 ⟨rfl, hb⟩
      have HU19 := Lib.hid (HU18.out.below hb); clear hb HU18 HLR
      go_wp2_with fail
      go_ret
      exact ⟨rfl, HU19.out.t.bel⟩
    | succ g =>
      have hin : i < k := by omega
      have hini : (i : Int) < k := by omega
      have hge0 : (0 : Int) ≤ i := by omega
      obtain ⟨ad, hkl, rfl, c0, c1⟩ := HKD.out.l.lbl hin
      have hal := World.block_lt_of_cell? wr _ c0
      have HT := Lib.hid (List.take_succ_eq_append_getElem hkl)
      generalize own[i] = p at *
      obtain ⟨xa, xb⟩ := p
      simp only at c0 c1
      have HKA := Lib.hid (HKD.out.alloc (.cells #[.string xa, .string xb] 25))
      have HXB := Lib.hid (Blk.mk (heap_alloc_new wr (.cells #[.string xa, .string xb] 25)) : Blk _ wr.heap.size 25 [.string xa, .string xb])
      have HBX := Lib.hid (show ∃ b, wr.heap.size = b from ⟨_, rfl⟩)
      go_upto_region 7 with fail
      obtain ⟨bx, hbx⟩ := HBX.out
      rw [hbx]
      have HBY := Lib.hid hbx
      clear hbx c0 c1 hal HBX HKD
      generalize wr.alloc (.cells #[.string xa, .string xb] 25) = W1 at *
      rw [HBY.out] at HXB
      go_upto_block 2 with fail
      go_cut [13, 15] from 40 to 51 (fun x13 x15 wx => x13 = .bool (hasS ns xa) ∧ KdAt B (some ad) k own Y k2 ns (.slice KA nk ck) ((own.take i).filter fun x => hasS ns x.1) (.slice DA nd cd) ((own.take i).filter fun x => !hasS ns x.1) w wx ∧ Blk wx bx 25 [.string xa, .string xb])
      case first =>
        go_wp2_with fail
        go_loopg [13, 15, 40] k2 (fun g x13 x15 x40 wq => ∃ j : Nat, j + g = k2 ∧ x40 = .int .i64 j ∧ x13 = .bool (hasS (ns.take j) xa) ∧ KdAt B (some ad) k own Y k2 ns (.slice KA nk ck) ((own.take i).filter fun x => hasS ns x.1) (.slice DA nd cd) ((own.take i).filter fun x => !hasS ns x.1) w wq ∧ Blk wq bx 25 [.string xa, .string xb])
        case atStart => exact ⟨0, by omega, rfl, rfl, HKA.out, HXB.out⟩
        case round =>
          obtain ⟨j, hjg, rfl, rfl, hka, hxb⟩ := hrel
          have HK3 := Lib.hid hka
          have HX3 := Lib.hid hxb
          clear hka hxb HKA HXB
          cases gk with
          | zero =>
            obtain rfl : j = k2 := by omega
            have hno : ¬ (j : Int) < j := by omega
            have HTJ := Lib.hid (show ns.take j = ns from List.take_of_length_le (by rw [HNL.out]; exact Nat.le_refl _))
            go_wp2_with fail
            go_meet
            exact ⟨by rw [HTJ.out], HK3.out, HX3.out⟩
          | succ g2 =>
            have hj : j < k2 := by omega
            have hji : (j : Int) < k2 := by omega
            have hj0 : (0 : Int) ≤ j := by omega
            obtain ⟨ad2, hkj, rfl, c0⟩ := HK3.out.n.str hj
            have HTJ := Lib.hid (show hasS (ns.take (j + 1)) xa = (hasS (ns.take j) xa || decide (ns[j] = xa)) by rw [List.take_succ_eq_append_getElem hkj, hasS_snoc])
            generalize ns[j] = nm at *
            have e0 := HX3.out.cell 0
            simp only [List.getElem?_cons_zero] at e0
            obtain ⟨q, hq⟩ : ∃ q, hasS (ns.take j) xa = q := ⟨_, rfl⟩
            rw [hq] at HTJ
            rw [hq]
            clear hq
            cases q with
            | true =>
              have HN : Hid (hasS (ns.take (j + 1)) xa = true) := Lib.hid (by rw [HTJ.out]; rfl)
              clear HTJ
              go_wp2_with fail
              go_roundg g2
              case measure => omega
              case rel => exact ⟨j + 1, by omega, by go_num, by rw [HN.out], HK3.out, HX3.out⟩
            | false =>
              by_cases he : nm = xa
              · have t1 : (nm.toList == xa.toList) = true := by rw [he]; simp
                have HN : Hid (hasS (ns.take (j + 1)) xa = true) := Lib.hid (by rw [HTJ.out, decide_eq_true he]; rfl)
                clear HTJ he
                go_wp2_with fail
                go_roundg g2
                case measure => omega
                case rel => exact ⟨j + 1, by omega, by go_num, by rw [HN.out], HK3.out, HX3.out⟩
              · have t1 : (nm.toList == xa.toList) = false := by rw [beq_eq_false_iff_ne]; exact fun h => he (ba_ext h)
                have HN : Hid (hasS (ns.take (j + 1)) xa = false) := Lib.hid (by rw [HTJ.out, decide_eq_false he]; rfl)
                clear HTJ he
                go_wp2_with fail
                go_roundg g2
                case measure => omega
                case rel => exact ⟨j + 1, by omega, by go_num, by rw [HN.out], HK3.out, HX3.out⟩
      case rest =>
        obtain ⟨rfl, hka, hxb⟩ := hcut
        have HK3 := Lib.hid hka
        have HX3 := Lib.hid hxb
        clear hka hxb HKA HXB
        obtain ⟨q, hq⟩ : ∃ q, hasS ns xa = q := ⟨_, rfl⟩
        rw [hq]
        have HQ := Lib.hid hq
        clear hq
        cases q with
        | true =>
          have HAL := Lib.hid (HK3.out.alloc (.cells #[.string xa, .string xb] 25))
          have HXX := Lib.hid (show Sees (wc.alloc (.cells #[.string xa, .string xb] 25)) (wc.alloc (.cells #[.string xa, .string xb] 25)).heap.size 2 (some ⟨wc.heap.size, 0, none⟩) 1 [.string xa, .string xb] from (Blk.mk (heap_alloc_new wc _) : Blk _ wc.heap.size 25 [.string xa, .string xb]).sees rfl (List.prefix_refl _))
          have hfl := List.length_filter_le (fun x : ByteArray × ByteArray => hasS ns x.1) (own.take i)
          have hfl2 : ((own.take i).filter fun x => hasS ns x.1).length ≤ 8 := by rw [List.length_take] at hfl; omega
          have e0 := HX3.out.cell 0
          have e1 := HX3.out.cell 1
          simp only [List.getElem?_cons_zero, List.getElem?_cons_succ] at e0 e1
          have hbl := HAL.out.lt
          have HNX := Lib.hid (show (own.take (i + 1)).filter (fun x => hasS ns x.1) = (own.take i).filter (fun x => hasS ns x.1) ++ [(xa, xb)] ∧ (own.take (i + 1)).filter (fun x => !hasS ns x.1) = (own.take i).filter (fun x => !hasS ns x.1) ++ [] by
            rw [HT.out, List.filter_append, List.filter_append]
            simp [HQ.out])
          clear HK3 HX3 HT hfl
          go_wp2_with (at_builtin; refine wpList_append_at rfl (.tmp 53) (.tmp 55) 22 rfl B 25 i0 (.agg #[.string ⟨#[]⟩, .string ⟨#[]⟩]) 2 32 Try.underlying22 hi0 hz0 hz1 hz2 rfl (by decide) (.slice KA nk ck) ((own.take i).filter fun x => hasS ns x.1).length (lbls ((own.take i).filter fun x => hasS ns x.1)) rfl HAL.out.kp _ _ 1 1 [.string xa, .string xb] rfl HXX.out (by simp [Value.oneCell']) (by unfold maxLen; omega) (by omega) hbl ?_)
          intro v9 w9 hown9 hgr9 hwh9
          obtain ⟨A9, c9, rfl, _, _⟩ := own_slice hown9
          have HN := Lib.hid (HAL.out.keep hown9 hgr9 hwh9)
          clear hown9 hgr9 hwh9 HAL HXX hbl e0 e1
          go_wp2_with fail
          go_roundg g
          case measure => omega
          case rel => exact ⟨i + 1, _, _, _, _, _, _, by omega, by go_num, rfl, rfl, by rw [HNX.out.1, HNX.out.2, List.append_nil]; exact HN.out⟩
        | false =>
          have HAL := Lib.hid (HK3.out.alloc (.cells #[.string xa, .string xb] 25))
          have HXX := Lib.hid (show Sees (wc.alloc (.cells #[.string xa, .string xb] 25)) (wc.alloc (.cells #[.string xa, .string xb] 25)).heap.size 2 (some ⟨wc.heap.size, 0, none⟩) 1 [.string xa, .string xb] from (Blk.mk (heap_alloc_new wc _) : Blk _ wc.heap.size 25 [.string xa, .string xb]).sees rfl (List.prefix_refl _))
          have hfl := List.length_filter_le (fun x : ByteArray × ByteArray => !hasS ns x.1) (own.take i)
          have hfl2 : ((own.take i).filter fun x => !hasS ns x.1).length ≤ 8 := by rw [List.length_take] at hfl; omega
          have e0 := HX3.out.cell 0
          have e1 := HX3.out.cell 1
          simp only [List.getElem?_cons_zero, List.getElem?_cons_succ] at e0 e1
          have hbl := HAL.out.lt
          have HNX := Lib.hid (show (own.take (i + 1)).filter (fun x => hasS ns x.1) = (own.take i).filter (fun x => hasS ns x.1) ++ [] ∧ (own.take (i + 1)).filter (fun x => !hasS ns x.1) = (own.take i).filter (fun x => !hasS ns x.1) ++ [(xa, xb)] by
            rw [HT.out, List.filter_append, List.filter_append]
            simp [HQ.out])
          clear HK3 HX3 HT hfl
          go_wp2_with (at_builtin; refine wpList_append_at rfl (.tmp 57) (.tmp 59) 22 rfl B 25 i0 (.agg #[.string ⟨#[]⟩, .string ⟨#[]⟩]) 2 32 Try.underlying22 hi0 hz0 hz1 hz2 rfl (by decide) (.slice DA nd cd) ((own.take i).filter fun x => !hasS ns x.1).length (lbls ((own.take i).filter fun x => !hasS ns x.1)) rfl HAL.out.dp _ _ 1 1 [.string xa, .string xb] rfl HXX.out (by simp [Value.oneCell']) (by unfold maxLen; omega) (by omega) hbl ?_)
          intro v9 w9 hown9 hgr9 hwh9
          obtain ⟨A9, c9, rfl, _, _⟩ := own_slice hown9
          have HN := Lib.hid ((HAL.out.swap.keep hown9 hgr9 hwh9).swap)
          clear hown9 hgr9 hwh9 HAL HXX hbl e0 e1
          go_wp2_with fail
          go_roundg g
          case measure => omega
          case rel => exact ⟨i + 1, _, _, _, _, _, _, by omega, by go_num, rfl, rfl, by rw [HNX.out.1, HNX.out.2, List.append_nil]; exact HN.out⟩
end Go.Proofs.Ytjpjpcockhmbeaa
