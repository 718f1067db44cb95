/- The walk of GroupTells. -/
import Derived.Test.YtjcbigkmmjcmdaaGroupTellsA
namespace Go.Proofs.Ytjcbigkmmjcmdaa
open Go.ChangeShapes Go.WideShapes Go.ChangeAt Go.RowKit
set_option linter.unusedVariables false
set_option linter.unusedSimpArgs false
set_option maxRecDepth 100000
theorem within_le (z : Int) (lo hi : Int) (h : lo ≤ hi) : lo ≤ nWithin z lo hi ∧ nWithin z lo hi ≤ hi := nWithin_in z h
abbrev zs8 : List Value := [.int .i64 0, .int .i64 0, .int .i64 0, .int .i64 0, .int .i64 0, .int .i64 0, .slice none 0 0, .slice none 0 0]
/-- The timing's box and the raw timing's. -/
structure I3 (w0 : World) (bx : Nat) (x y z wt iv rp : Int) (w : World) : Prop where
  box : Blk w bx 25 [.int .i64 wt, .int .i64 iv, .int .i64 rp]
  raw : Blk w w0.heap.size 25 [.int .i64 x, .int .i64 y, .int .i64 z]
  bel : Below w0.heap.size w0 w
theorem I3.below {w0 w w' : World} {bx : Nat} {x y z wt iv rp : Int} (h : I3 w0 bx x y z wt iv rp w) (hb : Below w.heap.size w w') : I3 w0 bx x y z wt iv rp w' := ⟨h.box.below hb h.box.lt, h.raw.below hb h.raw.lt, h.bel.trans (hb.mono h.bel.size)⟩
theorem I3.alloc {w0 w : World} {bx : Nat} {x y z wt iv rp : Int} (h : I3 w0 bx x y z wt iv rp w) (o : Obj) : I3 w0 bx x y z wt iv rp (w.alloc o) := h.below ((Below.refl _ _).alloc (Nat.le_refl _) o)
theorem blk8 {V : World} {b : Nat} {t : TypeId} {a0 a1 a2 a3 a4 a5 a6 a7 : Value} (h : Blk V b t [a0, a1, a2, a3, a4, a5, a6, a7]) :
    (V.cell? ⟨b, 0, none⟩ = some a0 ∧ V.cell? ⟨b, 1, none⟩ = some a1 ∧ V.cell? ⟨b, 2, none⟩ = some a2 ∧ V.cell? ⟨b, 3, none⟩ = some a3 ∧ V.cell? ⟨b, 4, none⟩ = some a4 ∧ V.cell? ⟨b, 5, none⟩ = some a5 ∧ V.cell? ⟨b, 6, none⟩ = some a6 ∧ V.cell? ⟨b, 7, none⟩ = some a7) ∧
    V.frozen? ⟨b, 0, none⟩ = false ∧ V.frozen? ⟨b, 1, none⟩ = false ∧ V.frozen? ⟨b, 2, none⟩ = false ∧ V.frozen? ⟨b, 3, none⟩ = false ∧ V.frozen? ⟨b, 4, none⟩ = false ∧ V.frozen? ⟨b, 5, none⟩ = false ∧ V.frozen? ⟨b, 6, none⟩ = false ∧ V.frozen? ⟨b, 7, none⟩ = false :=
  ⟨⟨h.cell 0, h.cell 1, h.cell 2, h.cell 3, h.cell 4, h.cell 5, h.cell 6, h.cell 7⟩, h.frozen 0, h.frozen 1, h.frozen 2, h.frozen 3, h.frozen 4, h.frozen 5, h.frozen 6, h.frozen 7⟩
theorem I3.drew {w0 w : World} {bx : Nat} {x y z wt iv rp : Int} (h : I3 w0 bx x y z wt iv rp w) : I3 w0 bx x y z wt iv rp w.drew := h.below (Below.refl _ _).drew
theorem Blk.drew1 {w : World} {g : Nat} {t : TypeId} {cs : List Value} (h : Blk w g t cs) : Blk w.drew g t cs := h
theorem zs8_drew {w w' : World} (hb : Below (w.alloc (.cells #[.int .i64 0, .int .i64 0, .int .i64 0, .int .i64 0, .int .i64 0, .int .i64 0, .slice none 0 0, .slice none 0 0] 35)).drew.heap.size (w.alloc (.cells #[.int .i64 0, .int .i64 0, .int .i64 0, .int .i64 0, .int .i64 0, .int .i64 0, .slice none 0 0, .slice none 0 0] 35)).drew w') : Blk w' w.heap.size 35 zs8 := (Blk.drew1 (Blk.mk (heap_alloc_new w (.cells #[.int .i64 0, .int .i64 0, .int .i64 0, .int .i64 0, .int .i64 0, .int .i64 0, .slice none 0 0, .slice none 0 0] 35)) : Blk _ _ _ zs8)).below hb (by simp)
theorem zs8_alloc {w w' : World} (hb : Below (w.alloc (.cells #[.int .i64 0, .int .i64 0, .int .i64 0, .int .i64 0, .int .i64 0, .int .i64 0, .slice none 0 0, .slice none 0 0] 35)).heap.size (w.alloc (.cells #[.int .i64 0, .int .i64 0, .int .i64 0, .int .i64 0, .int .i64 0, .int .i64 0, .slice none 0 0, .slice none 0 0] 35)) w') : Blk w' w.heap.size 35 zs8 := (Blk.mk (heap_alloc_new w (.cells #[.int .i64 0, .int .i64 0, .int .i64 0, .int .i64 0, .int .i64 0, .int .i64 0, .slice none 0 0, .slice none 0 0] 35)) : Blk _ _ _ zs8).below hb (by simp)
theorem GAt.alloc {w : World} {g : Nat} {s : GS} (h : GAt w g s) (o : Obj) : GAt (w.alloc o) g s := h.below ((Below.refl _ _).alloc (Nat.le_refl _) o)
theorem start_at {w0 V : World} {bx g bg : Nat} {x y z wt iv rp : Int} (h : I3 w0 bx x y z wt iv rp V) (hg : GAt V g (GS.new wt iv rp)) (hz : Blk V bg 35 zs8) (hge : w0.heap.size ≤ g) (hgb : w0.heap.size < bg) :
    ∃ g' bg' B : Nat, (Value.pointer (some ⟨g, 0, none⟩) = .pointer (some ⟨g', 0, none⟩)) ∧ (Value.pointer (some ⟨bg, 0, none⟩) = .pointer (some ⟨bg', 0, none⟩)) ∧ TL w0 B g' bg' (GS.new wt iv rp) (RV.new wt iv rp) none (put8 V bg (RV.new wt iv rp)) ∧ Blk (put8 V bg (RV.new wt iv rp)) w0.heap.size 25 [.int .i64 x, .int .i64 y, .int .i64 z] :=
  have ht : TL w0 V.heap.size g bg (GS.new wt iv rp) ⟨0, 0, 0, 0, 0, 0, none, 0, [], none, 0, 0⟩ none V := ⟨hg.far, hge, hz, ⟨Nat.le_of_lt hgb, hz.lt⟩, Sees.nil, (fun _ _ h => by cases h), h.bel, ⟨h.bel.size, Nat.le_refl _⟩⟩
  ⟨g, bg, _, rfl, rfl, ht.put _ Sees.nil (fun _ _ h => by cases h), h.raw.grown (put8_only V bg _) (fun e => by injection e with e; omega)⟩
theorem start_at2 {w0 V : World} {bx g bg : Nat} {x y z wt iv rp : Int} {u0 u1 u2 u3 u4 u5 u6 u7 : Value} (h : I3 w0 bx x y z wt iv rp V) (hg : GAt V g (GS.new wt iv rp)) (hz : Blk V bg 35 zs8) (hge : w0.heap.size ≤ g) (hgb : w0.heap.size < bg) (hu : [u0, u1, u2, u3, u4, u5, u6, u7] = (RV.new wt iv rp).cells) :
    ∃ g' bg' B : Nat, (Value.pointer (some ⟨g, 0, none⟩) = .pointer (some ⟨g', 0, none⟩)) ∧ (Value.pointer (some ⟨bg, 0, none⟩) = .pointer (some ⟨bg', 0, none⟩)) ∧ TL w0 B g' bg' (GS.new wt iv rp) (RV.new wt iv rp) none ((((((((V.setCell ⟨bg, 0, none⟩ u0).setCell ⟨bg, 1, none⟩ u1).setCell ⟨bg, 2, none⟩ u2).setCell ⟨bg, 3, none⟩ u3).setCell ⟨bg, 4, none⟩ u4).setCell ⟨bg, 5, none⟩ u5).setCell ⟨bg, 6, none⟩ u6).setCell ⟨bg, 7, none⟩ u7) ∧ Blk ((((((((V.setCell ⟨bg, 0, none⟩ u0).setCell ⟨bg, 1, none⟩ u1).setCell ⟨bg, 2, none⟩ u2).setCell ⟨bg, 3, none⟩ u3).setCell ⟨bg, 4, none⟩ u4).setCell ⟨bg, 5, none⟩ u5).setCell ⟨bg, 6, none⟩ u6).setCell ⟨bg, 7, none⟩ u7) w0.heap.size 25 [.int .i64 x, .int .i64 y, .int .i64 z] := by
  simp only [RV.cells, List.cons.injEq, and_true] at hu
  obtain ⟨rfl, rfl, rfl, rfl, rfl, rfl, rfl, rfl⟩ := hu
  exact start_at h hg hz hge hgb
theorem start_at3 {w0 V : World} {bx g : Nat} {x y z wt iv rp : Int} {u0 u1 u2 u3 u4 u5 u6 u7 : Value} (h : I3 w0 bx x y z wt iv rp V) (hg : GAt V g (GS.new wt iv rp)) (hge : w0.heap.size ≤ g) (hu : [u0, u1, u2, u3, u4, u5, u6, u7] = (RV.new wt iv rp).cells) :
    ∃ g' bg' B : Nat, (Value.pointer (some ⟨g, 0, none⟩) = .pointer (some ⟨g', 0, none⟩)) ∧ (Value.pointer (some ⟨V.heap.size, 0, none⟩) = .pointer (some ⟨bg', 0, none⟩)) ∧ TL w0 B g' bg' (GS.new wt iv rp) (RV.new wt iv rp) none (V.alloc (.cells #[u0, u1, u2, u3, u4, u5, u6, u7] 35)) ∧ Blk (V.alloc (.cells #[u0, u1, u2, u3, u4, u5, u6, u7] 35)) w0.heap.size 25 [.int .i64 x, .int .i64 y, .int .i64 z] := by
  simp only [RV.cells, List.cons.injEq, and_true] at hu
  obtain ⟨rfl, rfl, rfl, rfl, rfl, rfl, rfl, rfl⟩ := hu
  have h2 := h.alloc (.cells (RV.new wt iv rp).cells.toArray 35)
  exact ⟨g, V.heap.size, V.heap.size + 1, rfl, rfl, ⟨(hg.alloc _).far, hge, Blk.mk (heap_alloc_new V _), ⟨h.bel.size, by omega⟩, Sees.nil, (fun _ _ h => by cases h), h2.bel, ⟨Nat.le_trans h.bel.size (by omega), by simp⟩⟩, h2.raw⟩
theorem I3.store {w0 w : World} {bx : Nat} {x y z wt iv rp : Int} (h : I3 w0 bx x y z wt iv rp w) {b : Nat} {u0 u1 u2 u3 u4 u5 u6 u7 : Value} (h1 : bx < b) (h2 : w0.heap.size < b) : I3 w0 bx x y z wt iv rp ((((((((w.setCell ⟨b, 0, none⟩ u0).setCell ⟨b, 1, none⟩ u1).setCell ⟨b, 2, none⟩ u2).setCell ⟨b, 3, none⟩ u3).setCell ⟨b, 4, none⟩ u4).setCell ⟨b, 5, none⟩ u5).setCell ⟨b, 6, none⟩ u6).setCell ⟨b, 7, none⟩ u7) :=
  have ho := only_set (only_set (only_set (only_set (only_set (only_set (only_set (only_set (World.grownBy.refl w (some b)) 0 u0) 1 u1) 2 u2) 3 u3) 4 u4) 5 u5) 6 u6) 7 u7
  ⟨h.box.grown ho (fun e => by injection e with e; omega), h.raw.grown ho (fun e => by injection e with e; omega), h.bel.grown ho h.bel.size (fun k hk => by injection hk with hk; omega)⟩
theorem Sees.bound {w : World} {B B' size n : Nat} {A : Option Addr} {xs : List Value} (h : Sees w B size A n xs) (hb : ∀ ad, A = some ad → 0 < n → ad.block < B') : Sees w B' size A n xs := ⟨h.len, fun hn => by
  obtain ⟨ad, e, _, hc⟩ := h.at_ hn
  exact ⟨ad, e, hb ad e hn, hc⟩⟩
/-- Behind a tick: all that is read. -/
structure MD (w0 : World) (B g bg fb : Nat) (s : GS) (r : RV) (v va : Value) (told al : List ByteArray) (w : World) : Prop where
  tl : TL w0 B g bg s r v.ownBlock w
  row : w.ownsRow B 9 1 v told.length (strs told)
  full : FullAt fb al w
  own : TxAt va al w
section
variable {w0 w w' : World} {B g bg fb : Nat} {s : GS} {r : RV} {v va : Value} {told al : List ByteArray}
theorem MD.below (h : MD w0 B g bg fb s r v va told al w) (hb : Below w.heap.size w w') : MD w0 B g bg fb s r v va told al w' := ⟨h.tl.below hb, own_below h.row hb (Nat.le_refl _), h.full.below hb, h.own.below hb⟩
theorem MD.drewN (h : MD w0 B g bg fb s r v va told al w) (n : Nat) : MD w0 B g bg fb s r v va told al (w.drewN n) := h.below (belowD (Below.refl _ _) n)
theorem GAt.drewN {w : World} {g : Nat} {s : GS} (h : GAt w g s) (n : Nat) : GAt (w.drewN n) g s := h.below (belowD (Below.refl _ _) n)
theorem TL.alloc {w0 w : World} {B g bg : Nat} {s : GS} {r : RV} {row : Option Nat} (h : TL w0 B g bg s r row w) (o : Obj) : TL w0 B g bg s r row (w.alloc o) := h.below ((Below.refl _ _).alloc (Nat.le_refl _) o)
theorem one_text (w : World) (x : ByteArray) : Sees (w.alloc (.cells #[.string x] 9)) (w.alloc (.cells #[.string x] 9)).heap.size 1 (some ⟨w.heap.size, 0, none⟩) 1 (strs [x]) :=
  (Blk.mk (heap_alloc_new w (.cells #[.string x] 9)) : Blk _ _ 9 [.string x]).sees rfl (List.prefix_refl _)
theorem MD.alloc (h : MD w0 B g bg fb s r v va told al w) (o : Obj) : MD w0 B g bg fb s r v va told al (w.alloc o) := h.below ((Below.refl _ _).alloc (Nat.le_refl _) o)
theorem MD.put (h : MD w0 B g bg fb s r v va told al w) (r' : RV) (hl : Sees w B 1 r'.lA r'.last.length (strs r'.last) ∧ Typed w 9 r'.lA r'.last.length) : MD w0 B g bg fb s r' v va told al (put8 w bg r') :=
  ⟨h.tl.put r' hl.1 hl.2, own_only h.row (put8_only w bg r') h.tl.gb.2, h.full.write (put8_only w bg r') h.tl.box ref_ne_string, h.own.write (put8_only w bg r') h.tl.box ref_ne_string⟩
end
set_option maxHeartbeats 8000000 in
theorem group_tells (a b c : Int) (AG : Option Addr) (ng cg : Nat) (gs : List Int) (AN : Option Addr) (nn cn : Nat) (ns : List Int) (cp : Bool) (raw : Int × Int × Int) (w : World) (ha : I64 a) (hb : I64 b) (hc : I64 c)
    (hG : Sees w w.heap.size 1 AG ng (ints gs)) (hng : ng ≤ 9223372036854775807) (hgz : ∀ z ∈ gs, I64 z) (hN : Sees w w.heap.size 1 AN nn (ints ns)) (hnn : nn ≤ 9223372036854775807) (hnz : ∀ z ∈ ns, I64 z) :
    Calls Try.prog 4 #[.int .i64 a, .int .i64 b, .int .i64 c, .slice AG ng cg, .slice AN nn cn, .bool cp, .agg #[.int .i64 raw.1, .int .i64 raw.2.1, .int .i64 raw.2.2]] w fun e w' => e = .returned (.bool true) ∧ Below w.heap.size w w' := by
  obtain ⟨hw0, hw1, hi0, hi1, hr0, hr1, hok⟩ := timing_ok a b c
  have HT := Lib.hid (fun W => timing_any a b c W ha hb hc)
  have HNW := Lib.hid (fun W => gnew_yes (wtF a) (ivF b) (rpF c) W hok)
  have HRN := Lib.hid (fun W => refnew_any (wtF a) (ivF b) (rpF c) W)
  have HGS := Lib.hid hG; have HGZ := Lib.hid hgz
  have HNS := Lib.hid hN; have HNZ := Lib.hid hnz
  obtain ⟨x, y, z⟩ := raw
  generalize wtF a = wt at *
  generalize ivF b = iv at *
  generalize rpF c = rp at *
  clear hok ha hb hc hG hgz hN hnz
  simp only
  go_enter Try.func4, Try.ntmps4
  go_wp2_with fail
  (with_reducible refine (HT.out _).mono ?_); rintro e w1 ⟨rfl, hb⟩
  go_upto_region 2 with fail
  have HKR := Lib.hid (show Blk w1 w.heap.size 25 [.int .i64 x, .int .i64 y, .int .i64 z] from ((Blk.mk (heap_alloc_new w (.cells #[.int .i64 x, .int .i64 y, .int .i64 z] 25)) : Blk _ _ 25 [.int .i64 x, .int .i64 y, .int .i64 z])).below hb (by simp))
  have HB1 := Lib.hid (show Below w.heap.size w w1 from ((Below.refl _ _).alloc (Nat.le_refl _) _).trans (hb.mono (by simp)))
  have HK := Lib.hid ((Blk.mk (heap_alloc_new w1 (.cells #[.int .i64 wt, .int .i64 iv, .int .i64 rp] 25)) : Blk _ _ 25 [.int .i64 wt, .int .i64 iv, .int .i64 rp]))
  have HB2 := Lib.hid (HB1.out.alloc HB1.out.size (.cells #[.int .i64 wt, .int .i64 iv, .int .i64 rp] 25))
  have HK2 := Lib.hid (HKR.out.alloc (.cells #[.int .i64 wt, .int .i64 iv, .int .i64 rp] 25))
  obtain ⟨W, hW⟩ : ∃ W, w1.alloc (.cells #[.int .i64 wt, .int .i64 iv, .int .i64 rp] 25) = W := ⟨_, rfl⟩
  rw [hW] at HK HB2 HK2
  rw [hW]
  clear hW
  have hbx0 := HB1.out.size
  generalize w1.heap.size = bx at *
  clear HB1 HT HKR hb
  go_cut [16, 17] (fun x16 x17 wx => ∃ g bg B : Nat, x16 = .pointer (some ⟨g, 0, none⟩) ∧ x17 = .pointer (some ⟨bg, 0, none⟩) ∧ TL w B g bg (GS.new wt iv rp) (RV.new wt iv rp) none wx ∧ Blk wx w.heap.size 25 [.int .i64 x, .int .i64 y, .int .i64 z])
  case first =>
    have F0 := Lib.hid (show I3 w bx x y z wt iv rp W from ⟨HK.out, HK2.out, HB2.out⟩)
    have F := Lib.hid (show I3 w bx x y z wt iv rp W.drew from I3.below ⟨HK.out, HK2.out, HB2.out⟩ (Below.refl _ _).drew)
    clear HK HK2 HB2
    unfold RV.val RV.new RV.cells at HRN
    have hs1 := F.out.box.lt; have hs2 := F.out.raw.lt
    have hs0 : W.drew.heap.size = W.heap.size := rfl
    rw [hs0] at hs1 hs2
    have tokA : True := trivial
    have tokB : True := trivial
    go_region_held3 (fun V => V.cell? ⟨bx, 0, none⟩ = some (.int .i64 wt) ∧ V.cell? ⟨bx, 1, none⟩ = some (.int .i64 iv) ∧ V.cell? ⟨bx, 2, none⟩ = some (.int .i64 rp)) (first | (with_reducible exact box3 F.out.box) | (with_reducible exact box3 (F.out.alloc _).box) | (with_reducible exact box3 (F0.out.alloc _).drew.box) | (with_reducible exact box3 (F.out.store (by first | omega | (simp; omega)) (by first | omega | (simp; omega))).box) | (with_reducible exact box3 ((F.out.alloc _).store (by first | omega | (simp; omega)) (by first | omega | (simp; omega))).box)) (first
      | (have tk := tokA; (with_reducible refine (HNW.out _).mono ?_); rintro e wA ⟨g, rfl, hg, hge, hbA⟩; clear tokA tk
         have hsA := hbA.size
         try simp at hsA
         have FA := Lib.hid (show I3 w bx x y z wt iv rp wA from by first | (with_reducible exact F.out.below hbA) | (with_reducible exact (F0.out.alloc _).drew.below hbA))
         have F := FA
         try (have HZ := Lib.hid (zs8_drew (by with_reducible exact hbA)))
         skip)
      | (have tk := tokB; (with_reducible refine (HRN.out _).mono ?_); rintro e wB ⟨rfl, hbB⟩; clear tokB tk
         have hsB := hbB.size
         try simp at hsB
         have FB := Lib.hid (show I3 w bx x y z wt iv rp wB from by first | (with_reducible exact FA.out.below hbB) | (with_reducible exact (FA.out.alloc _).below hbB))
         have F := FB
         first
         | (have HZB := Lib.hid (HZ.out.below hbB HZ.out.lt)
            obtain ⟨⟨z0, z1, z2, z3, z4, z5, z6, z7⟩, f0, f1, f2, f3, f4, f5, f6, f7⟩ := blk8 HZB.out)
         | (have HZB := Lib.hid (zs8_alloc (by with_reducible exact hbB))
            obtain ⟨⟨z0, z1, z2, z3, z4, z5, z6, z7⟩, f0, f1, f2, f3, f4, f5, f6, f7⟩ := blk8 HZB.out)
         | skip)
      | fail)
    all_goals
      go_wp2_with fail
      go_meet
      first
      | (with_reducible refine start_at3 FB.out (hg.below hbB) ?_ ?_) <;> first | rfl | (simp at hge; omega) | omega
      | (with_reducible refine start_at2 FB.out (hg.below hbB) HZB.out ?_ ?_ ?_) <;> first | rfl | (simp at hge; omega) | omega
      | (with_reducible refine start_at2 FB.out ((hg.alloc _).below hbB) HZB.out ?_ ?_ ?_) <;> first | rfl | (simp at hge; omega) | omega
  case rest =>
    obtain ⟨g, bg, B, rfl, rfl, htl, hraw⟩ := hcut
    have HL := Lib.hid htl; have HRW := Lib.hid hraw
    clear htl hraw HK HK2 HB2 HNW HRN
    obtain ⟨rt, hrt⟩ : ∃ v, timingOk x y z = v := ⟨_, rfl⟩
    have HRT := Lib.hid hrt
    go_upto_region 3 with fail
    go_cut [18] (fun x18 wx => x18 = .bool rt ∧ TL w B g bg (GS.new wt iv rp) (RV.new wt iv rp) none wx ∧ Blk wx w.heap.size 25 [.int .i64 x, .int .i64 y, .int .i64 z])
    case first => as_aux_lemma =>
      obtain ⟨e0, e1, e2⟩ := box3 HRW.out
      rcases raw_cases x y z with ⟨h1, h2, h3, h4, h5, h6, h7⟩ | ⟨h1, h7⟩ | ⟨h1, h2, h7⟩ | ⟨h1, h2, h3, h7⟩ | ⟨h1, h2, h3, h4, h7⟩ | ⟨h1, h2, h3, h4, h5, h7⟩ | ⟨h1, h2, h3, h4, h5, h6, h7⟩
      all_goals
        rw [h7] at hrt
        subst hrt
        clear h7 HRT
        go_wp2_with fail
        go_meet
        exact ⟨rfl, HL.out, HRW.out⟩
    case rest =>
      obtain ⟨rfl, htl, hraw⟩ := hcut
      have HL2 := Lib.hid htl; have HRW2 := Lib.hid hraw
      clear htl hraw HL HRW hrt
      go_upto_region 4 with fail
      go_cut [80] (fun x80 wx => x80 = .bool false ∧ TL w B g bg (GS.new wt iv rp) (RV.new wt iv rp) none wx)
      case first => as_aux_lemma =>
        obtain ⟨e0, e1, e2⟩ := box3 HRW2.out
        have HGR := Lib.hid (fun W => gright_any x y z W)
        rw [HRT.out] at HGR
        go_wp2_with fail
        (with_reducible refine (HGR.out _).mono ?_); rintro e wq ⟨rfl, hbq⟩
        have HL3 := Lib.hid (HL2.out.below hbq); have HRW3 := Lib.hid (HRW2.out.below hbq HRW2.out.lt)
        clear hbq HGR HL2 HRW2 e0 e1 e2
        obtain ⟨e0, e1, e2⟩ := box3 HRW3.out
        cases rt with
        | true =>
          have HGN := Lib.hid (fun W => gnew_yes x y z W HRT.out)
          go_wp2_with fail
          (with_reducible refine (HGN.out _).mono ?_); rintro e wq ⟨g2, rfl, _, _, hbq⟩
          have HL4 := Lib.hid (HL3.out.below hbq)
          clear hbq HGN HL3 HRW3 e0 e1 e2
          go_wp2_with fail
          go_meet
          exact ⟨rfl, HL4.out⟩
        | false =>
          have HGN := Lib.hid (fun W => gnew_no x y z W HRT.out)
          go_wp2_with fail
          (with_reducible refine (HGN.out _).mono ?_); rintro e wq ⟨rfl, hbq⟩
          have HL4 := Lib.hid (HL3.out.below hbq)
          clear hbq HGN HL3 HRW3 e0 e1 e2
          go_wp2_with fail
          go_meet
          exact ⟨rfl, HL4.out⟩
      case rest =>
        obtain ⟨rfl, htl⟩ := hcut
        have HL := Lib.hid htl
        clear htl HL2 HRW2 HRT
        obtain ⟨K, hK⟩ : ∃ K, min (min ng nn) 40 = K := ⟨_, rfl⟩
        have hK1 : K ≤ ng ∧ K ≤ nn ∧ K ≤ 40 := by omega
        obtain ⟨hKg, hKn, hK4⟩ := hK1
        have HK := Lib.hid hK
        clear hK
        go_wp2_with fail
        go_loopg [16, 19, 20] K (fun gk x16 x19 x20 wr => ∃ (i : Nat) (t : Int) (g B : Nat) (s : GS) (r : RV), i + gk = K ∧ x20 = .int .i64 i ∧ x19 = .int .i64 t ∧ x16 = .pointer (some ⟨g, 0, none⟩) ∧ 0 ≤ t ∧ t ≤ 9 * (i : Int) ∧ GRel wt iv rp t s r ∧ TL w B g bg s r none wr)
        case atStart => exact ⟨0, 0, g, B, GS.new wt iv rp, RV.new wt iv rp, by omega, rfl, rfl, rfl, by omega, by omega, GRel.start wt iv rp, HL.out⟩
        case round =>
          obtain ⟨i, t, g, B, s, r, hig, rfl, rfl, rfl, ht0, ht1, hrel, htl⟩ := hrel
          have HRel := Lib.hid hrel; have HR := Lib.hid htl
          clear hrel htl HL
          cases gk with
          | zero => as_aux_lemma =>
            obtain rfl : i = K := by omega
            have HF := Lib.hid (show Below w.heap.size w _ from HR.out.bel)
            have hK' := HK.out
            have hcs : (i < ng ∧ i < nn ∧ ¬ i < 40) ∨ (i < ng ∧ ¬ i < nn) ∨ ¬ i < ng := by omega
            clear HR HRel hK'
            rcases hcs with ⟨h1, h2, h3⟩ | ⟨h1, h2⟩ | h1
            all_goals
              go_wp2_with fail
              (with_reducible refine (group_runs _).mono ?_); rintro e wq ⟨rfl, hbq⟩
              have HF2 := Lib.hid (HF.out.trans (hbq.mono HF.out.size))
              clear hbq
              go_wp2_with fail
              go_ret
              exact ⟨rfl, HF2.out⟩
          | succ gout =>
            have hiK : i < K := by omega
            obtain ⟨adg, hkg, rfl, eg⟩ := (HGS.out.below HR.out.bel).int (show i < ng by omega)
            obtain ⟨adn, hkn, rfl, en⟩ := (HNS.out.below HR.out.bel).int (show i < nn by omega)
            have hzg := HGZ.out gs[i] (List.getElem_mem _)
            have hzn := HNZ.out ns[i] (List.getElem_mem _)
            generalize gs[i] = zg at *
            generalize ns[i] = zn at *
            obtain ⟨hq0, hq1⟩ := nWithin_in zg (lo := 1) (hi := 9) (by omega)
            have HWG := Lib.hid (fun W => within_any zg 1 9 W hzg (by omega) (by omega) (by omega))
            generalize nWithin zg 1 9 = q at *
            obtain ⟨hp0, hp1⟩ := nWithin_in zn (lo := 0) (hi := 11) (by omega)
            have HWN := Lib.hid (fun W => within_any zn 0 11 W hzn (by omega) (by omega) (by omega))
            generalize nWithin zn 0 11 = p' at *
            obtain ⟨p, rfl⟩ := Int.eq_ofNat_of_zero_le hp0
            have i1 : IntKind.i64.wrap (t + q) = t + q := IntWalk.i64_in _ (by omega)
            have hn1 : i < ng := by omega
            have hn2 : i < nn := by omega
            have hn3 : i < 40 := by omega
            go_wp2_with fail
            (with_reducible refine (HWG.out _).mono ?_); rintro e wq ⟨rfl, rfl⟩
            go_wp2_with fail
            (with_reducible refine (HWN.out _).mono ?_); rintro e wq ⟨rfl, rfl⟩
            go_wp2_with fail
            clear HWG HWN HGS HGZ HNS HNZ HK eg en
            rw [show ((p : Int) % 8) = ((p % 8 : Nat) : Int) by omega]
            (with_reducible refine (alerts_any (p % 8) _ (by omega)).mono ?_); rintro e w3 haa; obtain ⟨v3, rfl, ha3, hb3⟩ := txAt_of haa
            have HR3 := Lib.hid (HR.out.below hb3)
            have hal3 := alertsF_few (p % 8) (by omega)
            obtain ⟨al, hal⟩ : ∃ al, alertsF (p % 8) = al := ⟨_, rfl⟩
            rw [hal] at ha3 hal3
            obtain ⟨A, c, rfl, has, hat, hac⟩ := ha3.h
            have HA3 := Lib.hid ha3
            have HAS := Lib.hid has
            clear haa ha3 hb3 hal has hat HR
            go_wp2_with fail
            (with_reducible refine (roomy_str A al.length c _ al ⟨#[113]⟩ _ HAS.out (Nat.le_refl _) (by omega)).mono ?_); rintro e w4 ⟨rfl, hro, hb4⟩
            have HF4 := Lib.hid (show FullAt w3.heap.size al w4 from ⟨by have h := Sees.of_own hro; simpa using h, Typed.of_own hro⟩)
            have HA4 := Lib.hid (HA3.out.below hb4); have HR4 := Lib.hid (HR3.out.below hb4)
            generalize w3.heap.size = fb at *
            clear hro hb4 HA3 HR3 HAS
            have hT1 : 0 ≤ t + q ∧ t + q ≤ 9 * ((i : Int) + 1) := by omega
            obtain ⟨hT0, hT9⟩ := hT1
            have hT2 : t ≤ t + q := by omega
            generalize t + q = t1 at *
            have HRel1 := Lib.hid (show GRel wt iv rp t1 s r from HRel.out.later (by omega))
            have hst := HRel1.out.since; have hlt := HRel1.out.lastT
            have HTC := Lib.hid (tick_any2 g s t1 (some ⟨fb, 0, none⟩) al.length (al.length + 80) al w4 HR4.out.a.at_ HF4.out.pre (fun ad ha _ => by injection ha with ha; subst ha; exact HF4.out.ne HR4.out.a.at_) (by omega) ⟨by omega, by omega⟩ (fun _ => by unfold I64; omega) (fun _ => by unfold I64; omega) (by have := HRel1.out.last; omega))
            have HST := Lib.hid (HRel1.out.step A c hal3 ⟨hw0, hw1⟩ ⟨hi0, hi1⟩ hT0)
            have HTR := Lib.hid (fun W hs hl => reftick_any r t1 A c al W hs hl (by omega) (by have := HRel1.out.rlast; omega) ⟨hT0, by omega⟩ (by rw [HRel1.out.rtm.1]; omega) (by rw [HRel1.out.rtm.2.1]; omega) HRel1.out.sn)
            have HRL := Lib.hid (fun (P : Option Addr → List ByteArray → Prop) => @rtick_last P r t1 A c al)
            obtain ⟨T, hT⟩ : ∃ T, s.tick t1 al = T := ⟨_, rfl⟩
            obtain ⟨R, hR⟩ : ∃ R, r.tick t1 A c al = R := ⟨_, rfl⟩
            rw [hT] at HTC HST
            rw [hR] at HTR HST HRL
            clear hT hR
            obtain ⟨s', told, ok⟩ := T
            obtain ⟨r', back, snd⟩ := R
            simp only at HTC HST HTR HRL
            obtain ⟨hk1, hk2, hk3, hk4⟩ := HST.out
            subst hk1
            have HRel2 := Lib.hid hk4; have HTO := Lib.hid hk2; have HBK := Lib.hid hk3
            have htl : told.length ≤ 3 := by rw [hk2]; split <;> simp [hal3]
            clear hst hlt HRel HRel1 HST hk2 hk3 hk4
            unfold RefAns RV.val RV.cells at HTR
            go_wp2_with fail
            (with_reducible refine HTC.out.mono ?_); rintro e w6 ⟨A6, c6, rfl, hg6, ho6, hs6, hgr6⟩
            have HR6 := Lib.hid (HR4.out.tick hgr6 (far_of hs6))
            have HO6 := Lib.hid ho6
            have HF6 := Lib.hid (HF4.out.tick HR4.out.a.at_ hgr6); have HA6 := Lib.hid (HA4.out.tick HR4.out.a.at_ hgr6)
            have hB4 := HR4.out.bel.size
            have HAB := Lib.hid (show ∀ ad, A = some ad → 0 < al.length → ad.block < w4.heap.size by
              obtain ⟨A', cA', hv', hAs, _, _⟩ := HA4.out.h
              injection hv' with hv1 _ _
              subst hv1
              exact sees_lt hAs)
            clear hg6 ho6 hs6 hgr6 HTC HR4 HF4 HA4
            generalize w4.heap.size = B4 at *
            obtain ⟨⟨e0, e1, e2, e3⟩, e4, e5, e6, e7⟩ := rcells HR6.out.box
            obtain ⟨A', cA', hv', hAs, hAt, hAc⟩ := HA6.out.h
            injection hv' with hv1 hv2 hv3
            subst hv1; subst hv3
            have HAS := Lib.hid hAs
            clear hAs hAt hAc hv2
            go_wp2_with fail
            (with_reducible refine (HTR.out _ HAS.out (HR6.out.last.more HR6.out.b.2)).mono ?_); rintro e w7 ⟨rfl, hb7⟩
            have HM7 := Lib.hid (show MD w B4 g bg fb s' r (.slice A6 told.length c6) (.slice A al.length c) told al w7 from MD.below ⟨HR6.out, HO6.out, HF6.out, HA6.out⟩ hb7)
            clear hb7 HR6 HO6 HF6 HA6 HAS HTR e0 e1 e2 e3 e4 e5 e6 e7
            have f0 := HM7.out.tl.box.frozen 0; have f1 := HM7.out.tl.box.frozen 1; have f2 := HM7.out.tl.box.frozen 2; have f3 := HM7.out.tl.box.frozen 3; have f4 := HM7.out.tl.box.frozen 4; have f5 := HM7.out.tl.box.frozen 5; have f6 := HM7.out.tl.box.frozen 6; have f7 := HM7.out.tl.box.frozen 7
            obtain ⟨⟨e0, e1, e2, e3⟩, e4, e5, e6, e7⟩ := rcells HM7.out.tl.box
            have hbl := HM7.out.tl.box.lt
            obtain ⟨uw, huw⟩ : ∃ u, (if back = true then Value.slice A al.length c else Value.slice none 0 0) = u := ⟨_, rfl⟩
            have HUW := Lib.hid huw
            rw [huw]
            clear huw
            go_upto_region 16 with fail
            have HM8 := Lib.hid ((HM7.out.put r' (HRL.out (fun A l => Sees w7 B4 1 A l.length (strs l) ∧ Typed w7 9 A l.length) ⟨HM7.out.tl.last, HM7.out.tl.ltyp⟩ (by
              obtain ⟨A', cA', hv', hAs, hAt, _⟩ := HM7.out.own.h
              injection hv' with hv1 _ _
              subst hv1
              exact ⟨hAs.bound HAB.out, hAt⟩) ⟨Sees.nil, (fun _ _ h => by cases h)⟩)).alloc (.cells r'.cells.toArray 35))
            obtain ⟨W8, hW8⟩ : ∃ W8, (put8 w7 bg r').alloc (.cells r'.cells.toArray 35) = W8 := ⟨_, rfl⟩
            rw [hW8] at HM8
            unfold put8 RV.cells at hW8
            rw [hW8]
            clear hW8 HM7 HRL HAB hbl f0 f1 f2 f3 f4 f5 f6 f7 e0 e1 e2 e3 e4 e5 e6 e7
            go_upto_if 133 with (fail)
            go_cut [26] (fun x26 wx => TxAt x26 told wx ∧ MD w B4 g bg fb s' r' (.slice A6 told.length c6) (.slice A al.length c) told al wx)
            case first => as_aux_lemma =>
              cases ok with
              | true =>
                have hta : told = al := by rw [HTO.out]; rfl
                subst hta
                have HX := Lib.hid (show TxAt uw told W8 by
                  cases back with
                  | true => rw [← HUW.out]; exact HM8.out.own
                  | false =>
                    rcases HBK.out rfl with h | h
                    · cases h
                    · rw [h, ← HUW.out]; exact TxAt.nil _)
                clear HTO HUW HBK
                go_wp2_with fail
                go_meet
                exact ⟨HX.out, HM8.out⟩
              | false =>
                have hta : told = [] := by rw [HTO.out]; rfl
                clear HTO HUW HBK
                go_wp2_with fail
                go_meet
                exact ⟨by rw [hta]; exact TxAt.nil _, HM8.out⟩
            case rest =>
              obtain ⟨hx, hm⟩ := hcut
              obtain ⟨Aw, cw, rfl, hws, _, _⟩ := hx.h
              have HW := Lib.hid hws; have HM := Lib.hid hm
              clear hx hm hws HM8 HUW HBK HTO
              go_upto_region 18 with fail
              go_cut [178] (fun x178 wx => x178 = .bool false ∧ MD w B4 g bg fb s' r' (.slice A6 told.length c6) (.slice A al.length c) told al wx)
              case first => as_aux_lemma =>
                have HSM := Lib.hid (fun V (h1 : Sees V wc.heap.size 1 A6 told.length (strs told)) (h2 : Sees V wc.heap.size 1 Aw told.length (strs told)) => same_str A6 Aw told.length c6 told.length cw _ _ told told V h1 h2 (by omega) (by omega))
                rw [decide_eq_true (rfl : told = told)] at HSM
                have HIN := Lib.hid (fun V (h1 : Sees V wc.heap.size 1 (some ⟨fb, 0, none⟩) (al.length + 80) (strs (al ++ List.replicate 80 ⟨#[113]⟩))) (h2 : Sees V wc.heap.size 1 A al.length (strs al)) => intact_str (some ⟨fb, 0, none⟩) A (al.length + 80) (al.length + 80) al.length c _ _ _ al ⟨#[113]⟩ V h1 h2 (Nat.le_refl _) (by omega) (by omega))
                rw [decide_eq_true (rfl : al ++ List.replicate 80 (⟨#[113]⟩ : ByteArray) = al ++ List.replicate 80 ⟨#[113]⟩)] at HIN
                have HID := Lib.hid (fun V h => gidle_any g s' V h)
                have hsi := HRel2.out.since; have hwa := HRel2.out.wait
                have HNX := Lib.hid (fun V h => gnext_any g s' V h ⟨hsi.1, by omega⟩ ⟨hwa.1, by omega⟩)
                have HT := Lib.hid (Sees.of_own HM.out.row)
                have HFS := Lib.hid HM.out.full.sees
                have HAS := Lib.hid (show Sees wc wc.heap.size 1 A al.length (strs al) by
                  obtain ⟨A', cA', hv', hAs, hAt, _⟩ := HM.out.own.h
                  injection hv' with hv1 _ _
                  subst hv1
                  exact hAs)
                have HGA := Lib.hid HM.out.tl.a.at_
                obtain ⟨⟨e0, e1, e2, e3⟩, e4, e5, e6, e7⟩ := rcells HM.out.tl.box
                rcases HRel2.out.st with ⟨h1, h2⟩ | ⟨h1, h2, h3, _⟩
                · have hnx : s'.next = -1 := by unfold GS.next; rw [if_pos h1]
                  have q2 : ¬ (0 ≤ r'.bg) := by omega
                  rw [decide_eq_true h1] at HID
                  rw [hnx] at HNX
                  clear h1 hnx
                  go_quiet (first
                    | ((refine ((HSM.out _ (HT.out.drewN _) (HW.out.drewN _)).mono fun e w'' hh => ⟨hh.1, ?_⟩); obtain ⟨m, rfl⟩ := hh.2; exact ⟨_, World.drewN_drewN _ _ _⟩))
                    | ((refine ((HIN.out _ (HFS.out.drewN _) (HAS.out.drewN _)).mono fun e w'' hh => ⟨hh.1, ?_⟩); obtain ⟨m, rfl⟩ := hh.2; exact ⟨_, World.drewN_drewN _ _ _⟩))
                    | ((refine ((HID.out _ (HGA.out.drewN _)).mono fun e w'' hh => ⟨hh.1, ?_⟩); obtain rfl := hh.2; exact ⟨_, rfl⟩))
                    | ((refine ((HNX.out _ (HGA.out.drewN _)).mono fun e w'' hh => ⟨hh.1, ?_⟩); obtain ⟨m, rfl⟩ := hh.2; exact ⟨_, World.drewN_drewN _ _ _⟩)))
                  go_wp2_with fail
                  go_meet
                  exact ⟨rfl, HM.out.drewN _⟩
                · have hst0 : s'.st ≠ 0 := by omega
                  have hnx : s'.next = r'.nx := by unfold GS.next; rw [if_neg hst0, if_neg (by omega)]; exact h3.symm
                  have q2 : ¬ (r'.bg < 0) := by omega
                  rw [decide_eq_false hst0] at HID
                  rw [hnx] at HNX
                  clear h1 h3 hnx hst0
                  go_quiet (first
                    | ((refine ((HSM.out _ (HT.out.drewN _) (HW.out.drewN _)).mono fun e w'' hh => ⟨hh.1, ?_⟩); obtain ⟨m, rfl⟩ := hh.2; exact ⟨_, World.drewN_drewN _ _ _⟩))
                    | ((refine ((HIN.out _ (HFS.out.drewN _) (HAS.out.drewN _)).mono fun e w'' hh => ⟨hh.1, ?_⟩); obtain ⟨m, rfl⟩ := hh.2; exact ⟨_, World.drewN_drewN _ _ _⟩))
                    | ((refine ((HID.out _ (HGA.out.drewN _)).mono fun e w'' hh => ⟨hh.1, ?_⟩); obtain rfl := hh.2; exact ⟨_, rfl⟩))
                    | ((refine ((HNX.out _ (HGA.out.drewN _)).mono fun e w'' hh => ⟨hh.1, ?_⟩); obtain ⟨m, rfl⟩ := hh.2; exact ⟨_, World.drewN_drewN _ _ _⟩)))
                  go_wp2_with fail
                  go_meet
                  exact ⟨rfl, HM.out.drewN _⟩
              case rest =>
                obtain ⟨rfl, hm⟩ := hcut
                have HM2 := Lib.hid hm
                clear hm HM HW
                have HR0 := Lib.hid HM2.out.tl
                have HBL := Lib.hid (fun hn : 0 < told.length => own_blk HM2.out.row hn)
                clear HM2
                go_wp2_with fail
                go_loopg [181] told.length (fun gq x181 wr => ∃ k : Nat, k + gq = told.length ∧ x181 = .int .i64 k ∧ TL w B4 g bg s' r' (Value.slice A6 told.length c6).ownBlock wr ∧ (0 < told.length → ∃ gk cs, A6 = some ⟨gk, 0, none⟩ ∧ Blk wr gk 9 cs ∧ told.length ≤ cs.length ∧ B4 ≤ gk))
                case atStart => exact ⟨0, by omega, rfl, HR0.out, HBL.out⟩
                case round =>
                  obtain ⟨k, hkq, rfl, htl2, hbl2⟩ := hrel
                  have HR := Lib.hid htl2; have HB := Lib.hid hbl2
                  clear htl2 hbl2 HR0 HBL
                  cases gk with
                  | zero => as_aux_lemma =>
                    obtain rfl : k = told.length := by omega
                    have HR2 := Lib.hid (HR.out.group HR.out.a.at_ HR.out.ga)
                    clear HB HR
                    have HFO := Lib.hid (show (s'.st ≠ 0 → I64 (t1 + 1 - s'.since)) ∧ (s'.st = 2 → I64 (t1 + 1 - s'.lastT)) ∧ s'.last.length ≤ 1000000 by
                      have h1 := HRel2.out.since; have h2 := HRel2.out.lastT; have h3 := HRel2.out.last
                      refine ⟨fun _ => ?_, fun _ => ?_, by omega⟩ <;> unfold I64 <;> omega)
                    cases cp with
                    | false =>
                      go_wp2_with fail
                      go_roundg gout
                      case measure => omega
                      case rel => exact ⟨i + 1, t1, g, B4, s', r', by omega, by go_num, rfl, rfl, hT0, by push_cast; omega, HRel2.out, HR2.out⟩
                    | true =>
                      obtain ⟨bb, hbb⟩ : ∃ b, (bits BinOp.and IntKind.i64 (i : Int) 7 == 3) = b := ⟨_, rfl⟩
                      cases bb with
                      | false =>
                        go_wp2_with fail
                        go_roundg gout
                        case measure => omega
                        case rel => exact ⟨i + 1, t1, g, B4, s', r', by omega, by go_num, rfl, rfl, hT0, by push_cast; omega, HRel2.out, HR2.out⟩
                      | true =>
                        have i2 : IntKind.i64.wrap (t1 + 1) = t1 + 1 := IntWalk.i64_in _ (by omega)
                        go_wp2_with fail
                        (with_reducible refine (gcopy_any g s' _ HR2.out.a.at_).mono ?_); rintro e w9 ⟨h, rfl, hg9, hl9, hb9⟩
                        have hne : h ≠ g := by have := HR2.out.a.at_.lt; omega
                        have HR9 := Lib.hid ((HR2.out.below hb9).alloc (.cells #[.string ⟨#[122, 122]⟩] 9))
                        have HH := Lib.hid (((HR2.out.below hb9).group hg9 (Nat.le_trans HR2.out.bel.size hl9)).alloc (.cells #[.string ⟨#[122, 122]⟩] 9))
                        have HT9 := Lib.hid (tick_any g s' (t1 + 1) (some ⟨w9.heap.size, 0, none⟩) 1 1 [⟨#[122, 122]⟩] _ HR9.out.a.at_ (one_text w9 _) (fun ad ha _ => by injection ha with ha; subst ha; have := (HR2.out.below hb9).a.at_.lt; simp only; omega) (by omega) ⟨by omega, by omega⟩ HFO.out.1 HFO.out.2.1 HFO.out.2.2)
                        clear hg9 hb9 HR2
                        obtain ⟨R9, hR9⟩ : ∃ R, s'.tick (t1 + 1) [⟨#[122, 122]⟩] = R := ⟨_, rfl⟩
                        rw [hR9] at HT9
                        clear hR9
                        obtain ⟨s9, told9, ok9⟩ := R9
                        simp only at HT9
                        go_wp2_with fail
                        (with_reducible refine HT9.out.mono ?_); rintro e w10 ⟨A10, c10, rfl, hg10, _, ho10⟩
                        have HR2 := Lib.hid (HH.out.tick2 HR9.out.a.at_ HR9.out.ga hne ho10)
                        clear HT9 hg10 ho10 HR9 HH
                        go_wp2_with fail
                        go_roundg gout
                        case measure => omega
                        case rel => exact ⟨i + 1, t1, h, _, s', r', by omega, by go_num, rfl, rfl, hT0, by push_cast; omega, HRel2.out, HR2.out⟩
                  | succ gq => as_aux_lemma =>
                    have hkt : k < told.length := by omega
                    obtain ⟨gk2, cs, rfl, hblk, hcs, hgk⟩ := HB.out (by omega)
                    have f0 := hblk.frozen k
                    have e0 := hblk.cell k
                    obtain ⟨u, hu⟩ : ∃ u, cs[k]? = some u := ⟨cs[k]'(by omega), List.getElem?_eq_getElem (by omega)⟩
                    rw [hu] at e0
                    have HK2 := Lib.hid (hblk.set k (.string ⟨#[116, 117, 114, 110, 101, 100]⟩))
                    have HR2 := Lib.hid (HR.out.told (only_set (World.grownBy.refl _ _) k (.string ⟨#[116, 117, 114, 110, 101, 100]⟩)) (fun y hy => by simp only [Value.ownBlock, Option.some.injEq] at hy; omega))
                    clear HB HR hblk hu
                    go_wp2_with fail
                    go_roundg gq
                    case measure => omega
                    case rel => exact ⟨k + 1, by omega, by go_num, HR2.out, fun _ => ⟨gk2, _, rfl, HK2.out, by simpa using hcs, hgk⟩⟩
end Go.Proofs.Ytjcbigkmmjcmdaa
