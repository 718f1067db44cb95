/- The walk of RouteGoes. -/
import Derived.Test.YtddkkfjgdfdcnaaGoesMath
import Derived.Test.YtddkkfjgdfdcnaaRouteRuns
import Derived.Test.YtddkkfjgdfdcnaaBook
import Derived.Deep.RegionLaw
namespace Go.Proofs.Ytddkkfjgdfdcnaa
open Go.ChangeShapes Go.WideShapes Go.ChangeAt Go.RowKit Go.Sort Go.Lib
set_option linter.unusedVariables false
set_option linter.unusedSimpArgs false
set_option maxRecDepth 100000
theorem Try.infoRoute : (Try.prog.info? 28).map (fun i => (i.zero, i.size, i.bytes)) = some (some (.agg #[.slice none 0 0, .string ⟨#[]⟩, .bool false, .slice none 0 0]), 4, 72) := by kernel_rfl
/-- string([]byte{c}). -/
theorem conv_one (w : World) (c : UInt8) (v : Int) (hv : v = c.toNat) :
    (convert 54 9 (.slice (some ⟨w.heap.size, 0, none⟩) 1 1)).run Try.prog (w.alloc (.cells #[.int .u8 v] 5)) = .ok (.string ⟨#[c]⟩) (w.alloc (.cells #[.int .u8 v] 5)) := by
  subst hv
  refine run_convert_bytes_back _ 54 9 5 ⟨w.heap.size, 0, none⟩ 1 [c] Try.underlying54 Try.underlying5 Try.underlying9 fun j hj => ?_
  have hj0 : j = 0 := by simpa using hj
  subst hj0
  rw [add_zero']
  exact (Blk.mk (heap_alloc_new w _) : Blk _ w.heap.size 5 [.int .u8 c.toNat]).cell 0
theorem step_append_rt {P : Program} {w : World} {ops : Array Oper} {o : Oper} {a : Act} {K : Act → World → Prop} {Q : Exit → Act → World → Prop} {E : Prop} (hgd : o.guard = none) (s x : Operand) (t : TypeId)
    (ho : o.op = .call { callee := .builtin .append, args := #[s, x], argTypes := #[t, t] })
    (base : Nat) (e : TypeId) (i : TypeInfo) (z : Value) (size bytes : Nat) (ht : P.underlying t = some (.slice e)) (hi : P.info? e = some i) (hz : i.zero = some z)
    (hsize : i.size = size) (hby : i.bytes = bytes) (hzs : z.cells.size = size) (hsz : 0 < size)
    (v : Value) (n : Nat) (xs : List Value) (hv : a.eval s = v) (hown : w.ownsRow base e size v n xs)
    (B : Nat) (A : Option Addr) (m c : Nat) (news : List Value) (hx : a.eval x = .slice A m c) (hs : Sees w B size A m news) (h1 : ∀ u ∈ news, u.oneCell' = true)
    (h63 : n + m ≤ maxLen) (hbytes : (n + m) * bytes ≤ 140737488355328) (hbase : base ≤ w.heap.size)
    (h : ∀ A' c' w', w'.ownsRow base e size (.slice A' (n + m) c') (n + m) (xs ++ news) → w.grownBy w' v.ownBlock → K (a.put o.dst (.slice A' (n + m) c')) w') :
    if Region.wanted o (yielded ops a.tmps) = true then Oper.wp P o a w K Q else E := by
  have hw : Region.wanted o (yielded ops a.tmps) = true := by simp [Region.wanted, hgd]
  rw [if_pos hw]
  obtain ⟨v', w', hr, h2, h3⟩ := append_run (P := P) w base t o.type e i z size bytes ht hi hz hsize hby hzs hsz v n xs hown B A m c news hs h1 h63 hbytes hbase
  obtain ⟨A', c', rfl, _, _⟩ := own_slice h2
  unfold Oper.wp execOp
  simp only [ho, resolve, invoke, builtin, Sem.run_bind, Sem.run_pure, Result.andThen_ok, List.map_toArray, List.map_cons, List.map_nil, hv, hx, hr]
  exact h A' c' w' h2 h3
/-- The cells of so many kids. -/
def kq (L : List (ByteArray × Bool)) : List Value := quad ((L.map mkG).map RT.cells)
theorem kq_push (L : List (ByteArray × Bool)) (p : ByteArray × Bool) : kq (L ++ [p]) = kq L ++ [.slice none 0 0, .string p.1, .bool p.2, .slice none 0 0] := by
  unfold kq; rw [List.map_append, List.map_append, quad_append]; rfl
/-- Within the first loop. -/
structure GoAt (w0 : World) (bx base : Nat) (L : List (ByteArray × Bool)) (X : Option Addr) (cx : Nat) (Y : Option Addr) (cy : Nat) (w : World) : Prop where
  box : Blk w bx 28 [.slice none 0 0, .string ⟨#[114, 111, 111, 116]⟩, .bool false, .slice X L.length cx]
  kids : w.ownsRow base 28 4 (.slice X L.length cx) L.length (kq L)
  want : w.ownsRow base 9 1 (.slice Y (takeG L).length cy) (takeG L).length (strs (takeG L))
  bel : Below w0.heap.size w0 w
  lt : bx < base ∧ w0.heap.size ≤ bx
theorem GoAt.below {w0 w w' : World} {bx base : Nat} {L : List (ByteArray × Bool)} {X Y : Option Addr} {cx cy : Nat} (h : GoAt w0 bx base L X cx Y cy w) (hb : Below w.heap.size w w') : GoAt w0 bx base L X cx Y cy w' :=
  ⟨h.box.below hb h.box.lt, own_below h.kids hb (Nat.le_refl _), own_below h.want hb (Nat.le_refl _), h.bel.trans (hb.mono h.bel.size), h.lt⟩
/-- A fact that stays while block b alone is written and memory is made. -/
def StaysB (b : Nat) (P : World → Prop) (w : World) : Prop := ∀ w', w.grownBy w' (some b) → P w'
theorem StaysB.next {b : Nat} {P : World → Prop} {w w' : World} (h : StaysB b P w) (hg : w.grownBy w' (some b)) : StaysB b P w' := fun V hv => h V ⟨hv.os.trans hg.os, hv.tape.trans hg.tape, hv.output.trans hg.output, Nat.le_trans hg.size hv.size, fun i hi hne => (hv.block i (Nat.lt_of_lt_of_le hi hg.size) hne).trans (hg.block i hi hne)⟩
theorem StaysB.now {b : Nat} {P : World → Prop} {w : World} (h : StaysB b P w) : P w := h w (World.grownBy.refl w _)
theorem StaysB.below {b : Nat} {P : World → Prop} {w w' : World} (h : StaysB b P w) (hb : Below w.heap.size w w') : P w' := h w' (by
  exact ⟨hb.os, hb.tape, hb.output, hb.size, fun i hi _ => hb.block i hi⟩)
/-- A tree's box written anew, a row made. -/
def stW (w : World) (b : Nat) (v0 v1 v2 v3 : Value) (o : Obj) : World := ((((w.setCell ⟨b, 0, none⟩ v0).setCell ⟨b, 1, none⟩ v1).setCell ⟨b, 2, none⟩ v2).setCell ⟨b, 3, none⟩ v3).alloc o
theorem stW_size (w : World) (b : Nat) (v0 v1 v2 v3 : Value) : ((((w.setCell ⟨b, 0, none⟩ v0).setCell ⟨b, 1, none⟩ v1).setCell ⟨b, 2, none⟩ v2).setCell ⟨b, 3, none⟩ v3).heap.size = w.heap.size := by simp [World.setCell]
theorem stW_grown (w : World) (b : Nat) (v0 v1 v2 v3 : Value) (o : Obj) : w.grownBy (stW w b v0 v1 v2 v3 o) (some b) :=
  only_alloc (only_setCell (only_setCell (only_setCell (only_setCell (World.grownBy.refl w (some b)) (p := ⟨b, 0, none⟩) (.inl rfl) v0) (p := ⟨b, 1, none⟩) (.inl rfl) v1) (p := ⟨b, 2, none⟩) (.inl rfl) v2) (p := ⟨b, 3, none⟩) (.inl rfl) v3) o
theorem stW_blk {w : World} {b : Nat} {t : TypeId} {x0 x1 x2 x3 : Value} (h : Blk w b t [x0, x1, x2, x3]) (v0 v1 v2 v3 : Value) (o : Obj) : Blk (stW w b v0 v1 v2 v3 o) b t [v0, v1, v2, v3] :=
  (((((h.set 0 v0).set 1 v1).set 2 v2).set 3 v3).alloc o)
theorem stW_new (w : World) (b : Nat) (v0 v1 v2 v3 : Value) (t : TypeId) (cs : List Value) : Blk (stW w b v0 v1 v2 v3 (.cells cs.toArray t)) w.heap.size t cs := by
  have h := heap_alloc_new ((((w.setCell ⟨b, 0, none⟩ v0).setCell ⟨b, 1, none⟩ v1).setCell ⟨b, 2, none⟩ v2).setCell ⟨b, 3, none⟩ v3) (.cells cs.toArray t)
  rw [stW_size] at h
  exact Blk.mk h
theorem okAt_up {b g d kn kc : Nat} {T : RT} {V : World} {nm : ByteArray} {kA : Option Addr} (hg : g ≠ b) (hb : Blk V g 28 [.slice none 0 0, .string T.nm, .bool false, .slice kA kn kc]) (hmv : T.mv = .slice none 0 0) (hkv : T.kv = .slice kA kn kc) (hgo : T.goes = false) (h : StaysB b (okAt d T) V) :
    StaysB b (okAt (d + 1) (.mk (.slice none 0 0) [] nm false (.slice (some ⟨g, 0, none⟩) 1 1) [T])) V := fun V' hv => by
  have hb2 := hb.grown hv (fun e => hg (by injection e))
  refine ⟨⟨none, 0, rfl, Sees.nil, Nat.le_refl _, by simp [RT.ms]⟩, ⟨_, 1, rfl, ?_, Nat.le_refl _, by simp⟩, fun k hk => ?_⟩
  · have h2 := hb2.sees (size := 4) (n := 1) (xs := quad ([T].map RT.cells)) (by rw [quad_length]; rfl) (by
      show quad [T.cells] <+: _
      unfold RT.cells
      rw [hmv, hkv, hgo]
      exact List.prefix_refl _)
    exact h2
  · have hk2 : k = T := by simpa [RT.kids] using hk
    subst hk2; exact h V' hv
theorem wide_ok {V : World} {gk : Nat} (hb : Blk V gk 28 (quad ((wideK 16).map RT.cells))) : okAt 2 (wideT (.slice (some ⟨gk, 0, none⟩) 16 16)) V := by
  refine ⟨⟨none, 0, rfl, Sees.nil, Nat.le_refl _, by simp [wideT, RT.ms]⟩, ⟨_, 16, rfl, hb.sees (by rw [quad_length, List.length_map]) (List.prefix_refl _), Nat.le_refl _, by show (wideK 16).length ≤ _; simp [wideK]⟩, fun q hq => ?_⟩
  have hq2 : q ∈ wideK 16 := hq
  unfold wideK at hq2
  obtain ⟨i, _, rfl⟩ := List.mem_map.1 hq2
  exact ⟨⟨none, 0, rfl, Sees.nil, Nat.le_refl _, by simp [RT.ms]⟩, ⟨none, 0, rfl, Sees.nil, Nat.le_refl _, by simp [RT.kids]⟩, (fun x hx => absurd hx List.not_mem_nil)⟩
/-- Same, of two answers. -/
theorem same_two {V : World} {A A2 : Option Addr} {c c2 : Nat} {L : List ByteArray} (h : Slc V 1 (.slice A L.length c) L.length (strs L)) (h2 : Slc V 1 (.slice A2 L.length c2) L.length (strs L)) (hl : L.length ≤ 1000) :
    Calls Try.prog 8 #[.slice A L.length c, .slice A2 L.length c2] V fun e w' => e = .returned (.bool true) ∧ Below V.heap.size V w' := by
  refine (same_str A A2 L.length c L.length c2 _ _ L L V h.sees h2.sees (by omega) (by omega)).mono fun e w' hh => ?_
  obtain ⟨h1, m, rfl⟩ := hh
  exact ⟨h1.trans (by rw [decide_eq_true rfl]), below_drewN3 (Below.refl _ _) m⟩
set_option maxHeartbeats 8000000 in
theorem route_goes (A0 : Option Addr) (n0 c0 : Nat) (zs : List Bool) (deep : Int) (w : World) (h0 : Sees w w.heap.size 1 A0 n0 (bools zs)) (hn0 : n0 ≤ c0) (hc0 : c0 ≤ 9223372036854775807) (hd : I64 deep) :
    Calls Try.prog 6 #[.slice A0 n0 c0, .int .i64 deep] w fun e w' => e = .returned (.bool true) ∧ Below w.heap.size w w' := by
  obtain ⟨i0, hi0, hz0, hz1, hz2⟩ := info_parts Try.infoRoute
  obtain ⟨j0, hj0, jz0, jz1, jz2⟩ := info_parts Try.infoStr
  obtain ⟨K, hK⟩ : ∃ k, min n0 8 = k := ⟨_, rfl⟩
  have HZ := Lib.hid h0
  have HZL := Lib.hid h0.bool_len
  have hK8 : K ≤ 8 := by omega
  have hKn : K ≤ n0 := by omega
  have HK := Lib.hid hK
  clear h0 hK
  obtain ⟨W1, hW1⟩ : ∃ W, w.alloc (.cells #[.slice none 0 0, .string ⟨#[114, 111, 111, 116]⟩, .bool false, .slice none 0 0] 28) = W := ⟨_, rfl⟩
  obtain ⟨bx, hbx⟩ : ∃ b, w.heap.size = b := ⟨_, rfl⟩
  have HG0 := Lib.hid (show GoAt w bx (bx + 1) [] none 0 none 0 W1 by
    rw [← hW1, ← hbx]
    exact ⟨Blk.mk (heap_alloc_new w _), by simpa [kq, quad] using World.ownsRow_nil _ _ 28 4, by simpa [strs, takeG] using World.ownsRow_nil _ _ 9 1, (Below.refl _ _).alloc (Nat.le_refl _) _, by omega, Nat.le_refl _⟩)
  have HW1 := Lib.hid hW1
  have HBX := Lib.hid hbx
  clear hW1 hbx
  go_enter Try.func6, Try.ntmps6
  go_upto_block 0 with fail
  rw [HW1.out, HBX.out]
  go_cut [6, 7, 8] from 15 to 51 (fun x6 x7 x8 wx => ∃ (X : Option Addr) (cx : Nat) (Y : Option Addr) (cy : Nat), x6 = .slice Y (takeG (gl zs K)).length cy ∧ GoAt w bx (bx + 1) (gl zs K) X cx Y cy wx)
  case first => --done
    go_wp2_with fail
    go_loopg [6, 7, 8] K (fun g x6 x7 x8 wr => ∃ (k : Nat) (X : Option Addr) (cx : Nat) (Y : Option Addr) (cy : Nat), k + g = K ∧ x8 = .int .i64 k ∧ x6 = .slice Y (takeG (gl zs k)).length cy ∧ x7 = .bool (!(gl zs k).all Prod.snd) ∧ GoAt w bx (bx + 1) (gl zs k) X cx Y cy wr)
    case atStart => exact ⟨0, none, 0, none, 0, by omega, rfl, rfl, rfl, HG0.out⟩
    case round =>
      obtain ⟨k, X, cx, Y, cy, hkg, rfl, rfl, rfl, hgo⟩ := hrel
      have HG := Lib.hid hgo
      clear hgo HG0
      cases gk with
      | zero =>
        obtain rfl : k = K := by omega
        have hn8 := HK.out
        by_cases h8 : n0 ≤ 8
        · obtain rfl : n0 = k := by omega
          clear hn8
          go_wp2_with fail
          go_meet
          exact ⟨X, cx, Y, cy, rfl, HG.out⟩
        · obtain rfl : k = 8 := by omega
          have h7 : 8 < n0 := by omega
          clear hn8
          go_wp2_with fail
          go_meet
          exact ⟨X, cx, Y, cy, rfl, HG.out⟩
      | succ g =>
        have hkn : k < n0 := by omega
        have hk8 : k < 8 := by omega
        obtain ⟨ad, hkl, hAe, e0⟩ := (HZ.out.below HG.out.bel).bool hkn
        have hal := World.block_lt_of_cell? wr _ e0
        have HPU := Lib.hid (show gl zs (k + 1) = gl zs k ++ [(nmB k, zs[k])] by rw [gl]; simp [List.getD_eq_getElem?_getD, List.getElem?_eq_getElem hkl])
        have HLN := Lib.hid (gl_len zs k)
        have HEK : Hid (∀ V, Below w.heap.size w V → V.cell? (ad.add k) = some (.bool zs[k])) := Lib.hid (fun V hb => by
          obtain ⟨ad', _, h1, h2⟩ := (HZ.out.below hb).bool hkn
          rw [hAe] at h1; injection h1 with h1; subst h1; exact h2)
        subst hAe
        generalize zs[k] = gk_ at *
        have hc97 : IntKind.u8.wrap (97 + (k : Int)) = 97 + k := by
          match k, hk8 with
          | 0, _ => rfl
          | 1, _ => rfl
          | 2, _ => rfl
          | 3, _ => rfl
          | 4, _ => rfl
          | 5, _ => rfl
          | 6, _ => rfl
          | 7, _ => rfl
        have HCV := Lib.hid (fun V => conv_one V (UInt8.ofNat (97 + k)) (97 + (k : Int)) (by
          match k, hk8 with
          | 0, _ => rfl
          | 1, _ => rfl
          | 2, _ => rfl
          | 3, _ => rfl
          | 4, _ => rfl
          | 5, _ => rfl
          | 6, _ => rfl
          | 7, _ => rfl))
        have HNB : Hid (nmB k = ⟨#[UInt8.ofNat (97 + k)]⟩) := Lib.hid rfl
        have hcv := HCV.out wr
        rw [← HNB.out] at hcv
        generalize nmB k = nm at *
        clear HCV HNB
        have hb0 := (Below.refl wr.heap.size wr).alloc (Nat.le_refl _) (.cells #[.int .u8 (97 + (k : Int))] 5)
        have HG2 := Lib.hid (HG.out.below hb0)
        obtain ⟨W2, hW2⟩ : ∃ W, wr.alloc (.cells #[.int .u8 (97 + (k : Int))] 5) = W := ⟨_, rfl⟩
        have HE2 := Lib.hid (show W2.cell? (ad.add k) = some (.bool gk_) from by rw [← hW2]; exact (hb0.cell hal).trans e0)
        have HAL := Lib.hid (show (ad.add k).block < W2.heap.size from by rw [← hW2]; simp; omega)
        rw [hW2] at HG2
        have HW2 := Lib.hid hW2
        clear hW2 hb0 HG
        go_upto_region 8 with fail
        rw [HW2.out]
        clear HW2 hcv hc97 e0 hal
        have HLL := Lib.hid (show (gl zs k).length = k from gl_len zs k)
        generalize gl zs k = L at *
        go_cut [] (fun wx => ∃ (X2 : Option Addr) (cx2 : Nat), Blk wx bx 28 [.slice none 0 0, .string ⟨#[114, 111, 111, 116]⟩, .bool false, .slice X2 (L.length + 1) cx2] ∧ wx.ownsRow (bx + 1) 28 4 (.slice X2 (L.length + 1) cx2) (L.length + 1) (kq (L ++ [(nm, gk_)])) ∧ wx.ownsRow (bx + 1) 9 1 (.slice Y (takeG L).length cy) (takeG L).length (strs (takeG L)) ∧ Below w.heap.size w wx)
        case first =>
          have tok39 : True := trivial
          obtain ⟨D, hD⟩ : ∃ D, W2.drew = D := ⟨_, rfl⟩
          have hDs : D.heap.size = W2.heap.size := by rw [← hD]; rfl
          have HGD := Lib.hid (show GoAt w bx (bx + 1) L X cx Y cy D by rw [← hD]; exact HG2.out.below (Below.refl _ _).drew)
          have eD : D.cell? (ad.add k) = some (.bool gk_) := by rw [← hD]; exact HE2.out
          have hbxlt := HGD.out.box.lt
          have hadlt : (ad.add k).block < D.heap.size := by have := HAL.out; omega
          have c3 := HGD.out.box.cell 3
          simp only [List.getElem?_cons_zero, List.getElem?_cons_succ] at c3
          have HGA := Lib.hid (HGD.out.below ((Below.refl _ D).alloc (Nat.le_refl _) (.cells #[.slice none 0 0, .string nm, .bool gk_, .slice none 0 0] 28)))
          have HEA := Lib.hid (show (D.alloc (.cells #[.slice none 0 0, .string nm, .bool gk_, .slice none 0 0] 28)).cell? (ad.add k) = some (.bool gk_) from (World.cell?_alloc_lt D _ _ hadlt).trans eD)
          have HX := Lib.hid (show Sees (D.alloc (.cells #[.slice none 0 0, .string nm, .bool gk_, .slice none 0 0] 28)) (D.alloc (.cells #[.slice none 0 0, .string nm, .bool gk_, .slice none 0 0] 28)).heap.size 4 (some ⟨D.heap.size, 0, none⟩) 1 [.slice none 0 0, .string nm, .bool gk_, .slice none 0 0] from (Blk.mk (heap_alloc_new D _) : Blk _ D.heap.size 28 [.slice none 0 0, .string nm, .bool gk_, .slice none 0 0]).sees rfl (List.prefix_refl _))
          have c3A := HGA.out.box.cell 3
          simp only [List.getElem?_cons_zero, List.getElem?_cons_succ] at c3A
          have eDA := HEA.out
          have hL8 : L.length ≤ 8 := by have := HLL.out; omega
          have z1 : (k : Int) < n0 := by omega
          have z2 : (0 : Int) ≤ k := by omega
          clear HG2 HGD
          go_region_law (first
            | (have tk := tok39; refine step_append_rt rfl (.tmp 31) (.tmp 38) 26 rfl (bx + 1) 28 i0 (.agg #[.slice none 0 0, .string ⟨#[]⟩, .bool false, .slice none 0 0]) 4 72 Try.underlying26 hi0 hz0 hz1 hz2 rfl (by decide) (.slice X L.length cx) L.length (kq L) (by first | rfl | (simp [Act.eval]; done)) HGA.out.kids _ (some ⟨D.heap.size, 0, none⟩) 1 1 [.slice none 0 0, .string nm, .bool gk_, .slice none 0 0] (by first | rfl | (simp [Act.eval]; done)) HX.out (by intro u hu; simp only [List.mem_cons, List.not_mem_nil, or_false] at hu; rcases hu with rfl | rfl | rfl | rfl <;> rfl) (by unfold maxLen; omega) (by omega) (by simp; omega) ?_; intro A7 c7 w7 hown7 hgr7; have HO7 := Lib.hid hown7; have HR7 := Lib.hid hgr7; have HK7 := Lib.hid (HGA.out.box.grown hgr7 (fun e => by have := (HGA.out.kids.lt _ e.symm).1; omega)); have hk7 := HK7.out.cell 3; simp only [List.getElem?_cons_zero, List.getElem?_cons_succ] at hk7; have hf7 := HK7.out.frozen 3; clear tok39 tk hown7 hgr7)
            | fail)
          all_goals
            have HKZ := Lib.hid (HK7.out.set 3 (.slice A7 (L.length + 1) c7))
            have HOZ := Lib.hid (own_far HO7.out (p := ⟨bx, 3, none⟩) (Nat.lt_succ_self bx) (.slice A7 (L.length + 1) c7))
            have HWZ := Lib.hid (own_far (own_grown HGA.out.want HR7.out (own_ne HGA.out.want HGA.out.kids (by decide))) (p := ⟨bx, 3, none⟩) (Nat.lt_succ_self bx) (.slice A7 (L.length + 1) c7))
            have HBZ := Lib.hid ((HGA.out.bel.grown HR7.out HGA.out.bel.size (fun g hg => by have h1 := (HGA.out.kids.lt _ hg).1; have h2 := HGA.out.lt; omega)).setCell (p := ⟨bx, 3, none⟩) HGA.out.lt.2 (.slice A7 (L.length + 1) c7))
            clear HO7 HR7 HK7 hk7 hf7 HGA HX HEA c3 c3A eD eDA hD
            go_wp2_with fail
            go_meet
            exact ⟨A7, c7, HKZ.out, by rw [kq_push]; exact HOZ.out, HWZ.out, HBZ.out⟩
        case rest =>
          obtain ⟨X2, cx2, hbox, hkids, hwant, hbel⟩ := hcut
          have HBO := Lib.hid hbox; have HKI := Lib.hid hkids; have HWA := Lib.hid hwant; have HB := Lib.hid hbel
          have HTP := Lib.hid (takeG_push L (nm, gk_))
          have HAP := Lib.hid (all_push L (nm, gk_))
          have hlt := HG2.out.lt
          have HL2 := Lib.hid (show (L ++ [(nm, gk_)]).length = L.length + 1 by simp)
          have htl := takeG_len L
          have hL8 : L.length ≤ 8 := by have := HLL.out; omega
          clear hbox hkids hwant hbel HG2 HE2 HAL
          generalize hP2 : L ++ [(nm, gk_)] = L2 at *
          clear hP2
          obtain ⟨b, hb⟩ : ∃ b, L.all Prod.snd = b := ⟨_, rfl⟩
          rw [hb] at HTP HAP
          try rw [hb]
          clear hb
          cases b with
          | false =>
            have HT2 := Lib.hid (show takeG L2 = takeG L by rw [HTP.out]; simp)
            have HA2 := Lib.hid (show L2.all Prod.snd = false by rw [HAP.out]; rfl)
            clear HTP HAP
            go_wp2_with fail
            go_roundg g
            case measure => omega
            case rel => exact ⟨k + 1, X2, cx2, Y, cy, by omega, by go_num, by rw [HPU.out, HT2.out], by rw [HPU.out, HA2.out], by rw [HPU.out]; exact ⟨by rw [HL2.out]; exact HBO.out, by rw [HL2.out]; exact HKI.out, by rw [HT2.out]; exact HWA.out, HB.out, hlt⟩⟩
          | true =>
            have HT2 := Lib.hid (show takeG L2 = takeG L ++ [nm] by rw [HTP.out]; simp)
            have HA2 := Lib.hid (show L2.all Prod.snd = gk_ by rw [HAP.out]; rfl)
            clear HTP HAP
            have hb1 := (Below.refl wc.heap.size wc).alloc (Nat.le_refl _) (.cells #[.string nm] 9)
            have HBO1 := Lib.hid (HBO.out.below hb1 HBO.out.lt)
            have HKI1 := Lib.hid (own_below HKI.out hb1 (Nat.le_refl _))
            have HWA1 := Lib.hid (own_below HWA.out hb1 (Nat.le_refl _))
            have HB1 := Lib.hid (HB.out.trans (hb1.mono HB.out.size))
            have HX := Lib.hid (show Sees (wc.alloc (.cells #[.string nm] 9)) (wc.alloc (.cells #[.string nm] 9)).heap.size 1 (some ⟨wc.heap.size, 0, none⟩) 1 (strs [nm]) from (Blk.mk (heap_alloc_new wc _) : Blk _ wc.heap.size 9 [.string nm]).sees rfl (List.prefix_refl _))
            have hbs : bx + 1 ≤ wc.heap.size := HBO.out.lt
            clear hb1 HBO HKI HWA
            go_wp2_with (at_builtin; refine wpList_append_at rfl (.tmp 43) (.tmp 45) 33 rfl (bx + 1) 9 j0 (.string ⟨#[]⟩) 1 16 Try.underlying33 hj0 jz0 jz1 jz2 rfl (by decide) (.slice Y (takeG L).length cy) (takeG L).length (strs (takeG L)) rfl HWA1.out _ _ 1 1 (strs [nm]) rfl HX.out (strs_one _) (by unfold maxLen; omega) (by omega) (by simp; omega) ?_)
            intro v3 w3 hown3 hgr3 hwh3
            obtain ⟨A3, c3, rfl, hc3, hc4⟩ := own_slice hown3
            have HB3 := Lib.hid (HB1.out.grown hgr3 HB1.out.size (fun g hg => by have := (HWA1.out.lt g hg).1; omega))
            have HBO3 := Lib.hid (HBO1.out.grown hgr3 (fun e => own_ne_blk HWA1.out HBO1.out (by decide) e.symm))
            have HKI3 := Lib.hid (own_grown HKI1.out hgr3 (own_ne HKI1.out HWA1.out (by decide)))
            have HW3 := Lib.hid (show w3.ownsRow (bx + 1) 9 1 (.slice A3 (takeG L2).length c3) (takeG L2).length (strs (takeG L2)) by rw [HT2.out, List.length_append, strs_append]; exact hown3)
            have HTL := Lib.hid (show (takeG L).length + 1 = (takeG L2).length by rw [HT2.out, List.length_append]; rfl)
            have e3 := HEK.out w3 HB3.out
            have hal3 := World.block_lt_of_cell? w3 _ e3
            have z1 : (k : Int) < n0 := by omega
            have z2 : (0 : Int) ≤ k := by omega
            clear hown3 hgr3 hwh3 HX HB1 HBO1 HKI1 HWA1
            go_wp2_with fail
            go_roundg g
            case measure => omega
            case rel => exact ⟨k + 1, X2, cx2, A3, c3, by omega, by go_num, by rw [HPU.out, HTL.out], by rw [HPU.out, HA2.out], by rw [HPU.out]; exact ⟨by rw [HL2.out]; exact HBO3.out, by rw [HL2.out]; exact HKI3.out, HW3.out, HB3.out, hlt⟩⟩
  case rest =>
    obtain ⟨X, cx, Y, cy, rfl, hgo⟩ := hcut
    have HG := Lib.hid hgo
    have HWN := Lib.hid (wantG_ne (gl zs K))
    have HWR := Lib.hid (want_rises zs hK8)
    have hll : (gl zs K).length ≤ 8 := by rw [gl_len]; exact hK8
    have HUP := Lib.hid (UpOk.start (k := .slice X (gl zs K).length cx) (L := gl zs K) (gl_words zs K hK8))
    have HW : Hid (wantG (gl zs K) = if takeG (gl zs K) = [] then [⟨#[114, 111, 111, 116]⟩] else takeG (gl zs K)) := Lib.hid rfl
    have htl := takeG_len (gl zs K)
    clear hgo HG0 HZ HZL HK
    generalize gl zs K = L at *
    generalize wantG L = W at *
    have hbw := HG.out.lt
    have HWA := Lib.hid HG.out.want
    go_upto_if 54 with fail
    go_cut [6] (fun x6 wx => ∃ (A : Option Addr) (c : Nat), x6 = .slice A W.length c ∧ wx.ownsRow (bx + 1) 9 1 (.slice A W.length c) W.length (strs W) ∧ Blk wx bx 28 [.slice none 0 0, .string ⟨#[114, 111, 111, 116]⟩, .bool false, .slice X L.length cx] ∧ wx.ownsRow (bx + 1) 28 4 (.slice X L.length cx) L.length (kq L) ∧ Below w.heap.size w wx)
    case first =>
      generalize takeG L = T at *
      by_cases hT : T = []
      · subst hT
        have HE := Lib.hid (show W = [⟨#[114, 111, 111, 116]⟩] by rw [HW.out, if_pos rfl])
        have HA := Lib.hid (HG.out.below ((Below.refl wc.heap.size wc).alloc (Nat.le_refl _) (.cells #[.string ⟨#[114, 111, 111, 116]⟩] 9)))
        have HOW := Lib.hid (show (wc.alloc (.cells #[.string ⟨#[114, 111, 111, 116]⟩] 9)).ownsRow (bx + 1) 9 1 (.slice (some ⟨wc.heap.size, 0, none⟩) 1 1) 1 (strs [⟨#[114, 111, 111, 116]⟩]) by
          have h := (Blk.mk (heap_alloc_new wc (.cells #[.string ⟨#[114, 111, 111, 116]⟩] 9)) : Blk _ wc.heap.size 9 [.string ⟨#[114, 111, 111, 116]⟩]).owns (base := bx + 1) (size := 1) (n := 1) (cap := 1) HG.out.box.lt (Nat.le_refl _) (by unfold maxLen; omega) rfl
          simpa [strs] using h)
        clear HW
        go_wp2_with fail
        go_meet
        exact ⟨_, 1, by rw [HE.out]; rfl, by rw [HE.out]; exact HOW.out, HA.out.box, HA.out.kids, HA.out.bel⟩
      · have HE := Lib.hid (show W = T by rw [HW.out, if_neg hT])
        have hl0 : ¬ T.length = 0 := fun h => hT (List.eq_nil_of_length_eq_zero h)
        have hl1 : ¬ (T.length : Int) = 0 := by omega
        have hl2 : ((T.length : Int) == 0) = false := by rw [beq_eq_false_iff_ne]; exact hl1
        clear HW hT
        go_wp2_with fail
        go_meet
        exact ⟨Y, cy, by rw [HE.out], by rw [HE.out]; exact HWA.out, HG.out.box, HG.out.kids, HG.out.bel⟩
    case rest =>
      obtain ⟨A, cA, rfl, hwant, hbox, hkids, hbel⟩ := hcut
      have HB0 := Lib.hid hbel
      have HBX2 := Lib.hid hbox
      have HSW := Lib.hid (show StaysB bx (fun V => Slc V 1 (.slice A W.length cA) W.length (strs W)) wc from fun V hg => Slc.of_own (own_grown hwant hg (fun g hg2 he => by have h1 := (hwant.lt g hg2).1; injection he with he; omega)))
      have HOK := Lib.hid (show StaysB bx (okAt 2 (rootT (.slice X L.length cx) L)) wc from fun V hg => by
        have hk := own_grown hkids hg (fun g hg2 he => by have h1 := (hkids.lt g hg2).1; injection he with he; omega)
        refine ⟨⟨none, 0, rfl, Sees.nil, Nat.le_refl _, by simp [rootT, RT.ms]⟩, ?_, fun q hq => ?_⟩
        · obtain ⟨X', cx', h1, h2, h3⟩ := own_slice hk
          injection h1 with h1 _ h4; subst h1; subst h4
          have h5 := Sees.of_own hk
          refine ⟨X, cx, ?_, ?_, ?_, h3⟩
          · show Value.slice X L.length cx = .slice X (L.map mkG).length cx
            rw [List.length_map]
          · show Sees V V.heap.size 4 X (L.map mkG).length (kq L)
            rw [List.length_map]; exact h5
          · show (L.map mkG).length ≤ cx
            rw [List.length_map]; exact h2
        · obtain ⟨p, hp, rfl⟩ := List.mem_map.1 hq
          exact ⟨⟨none, 0, rfl, Sees.nil, Nat.le_refl _, by simp [mkG, RT.ms]⟩, ⟨none, 0, rfl, Sees.nil, Nat.le_refl _, by simp [mkG, RT.kids]⟩, (fun x hx => absurd hx List.not_mem_nil)⟩)
      clear hwant hbox hkids hbel HW HG HWA htl
      have hdi := nWithin_in deep (lo := 0) (hi := 6) (by omega)
      have HWI := Lib.hid (fun V => within_any deep 0 6 V hd (by omega) (by omega) (by omega))
      generalize nWithin deep 0 6 = D' at *
      obtain ⟨D, rfl⟩ := Int.eq_ofNat_of_zero_le hdi.1
      have hD6 : D ≤ 6 := by omega
      clear hdi
      have HTM : Hid ((rootT (.slice X L.length cx) L).mv = .slice none 0 0 ∧ (rootT (.slice X L.length cx) L).kv = .slice X L.length cx ∧ (rootT (.slice X L.length cx) L).nm = ⟨#[114, 111, 111, 116]⟩) := Lib.hid ⟨rfl, rfl, rfl⟩
      generalize rootT (.slice X L.length cx) L = T0 at *
      obtain ⟨cc, hcc⟩ : ∃ c, 1 + L.length = c := ⟨_, rfl⟩
      rw [hcc] at HUP
      have hcc9 : cc ≤ 9 := by omega
      clear hcc
      go_wp2_with fail
      (with_reducible refine (HWI.out _).mono ?_); rintro e wq ⟨rfl, rfl⟩
      go_wp2_with fail
      go_loopg [59] D (fun g x59 wr => ∃ (j : Nat) (T : RT) (kA : Option Addr) (kn kc : Nat), j + g = D ∧ x59 = .int .i64 j ∧ Blk wr bx 28 [.slice none 0 0, .string T.nm, .bool false, .slice kA kn kc] ∧ T.mv = .slice none 0 0 ∧ T.kv = .slice kA kn kc ∧ UpOk j W cc T ∧ StaysB bx (okAt (2 + j) T) wr ∧ StaysB bx (fun V => Slc V 1 (.slice A W.length cA) W.length (strs W)) wr ∧ Below w.heap.size w wr)
      case atStart =>
        refine ⟨0, T0, X, L.length, cx, by omega, rfl, ?_, HTM.out.1, HTM.out.2.1, HUP.out, HOK.out, HSW.out, HB0.out⟩
        rw [HTM.out.2.2]; exact HBX2.out
      case round =>
        obtain ⟨j, T, kA, kn, kc, hjg, rfl, hbox, hmv, hkv, hup, hok, hsw, hbel⟩ := hrel
        have HB := Lib.hid hbel; have HBO := Lib.hid hbox; have HMV := Lib.hid hmv; have HKV := Lib.hid hkv; have HU := Lib.hid hup; have HO := Lib.hid hok; have HS := Lib.hid hsw
        clear hbox hmv hkv hup hok hsw hbel HB0 HBX2 HSW HOK HUP HTM
        cases gk with
        | succ g =>
          have c0' := HBO.out.cell 0
          have c1 := HBO.out.cell 1
          have c2 := HBO.out.cell 2
          have c3 := HBO.out.cell 3
          simp only [List.getElem?_cons_zero, List.getElem?_cons_succ] at c0' c1 c2 c3
          have hbl := HBO.out.lt
          have HBA := Lib.hid (HBO.out.alloc (.cells #[.slice none 0 0, .string T.nm, .bool false, .slice kA kn kc] 28))
          have d0 := HBA.out.cell 0
          have d1 := HBA.out.cell 1
          have d2 := HBA.out.cell 2
          have d3 := HBA.out.cell 3
          simp only [List.getElem?_cons_zero, List.getElem?_cons_succ] at d0 d1 d2 d3
          have f0 := HBO.out.frozen 0
          have f1 := HBO.out.frozen 1
          have f2 := HBO.out.frozen 2
          have f3 := HBO.out.frozen 3
          obtain ⟨tn, htn⟩ : ∃ t, T.nm = t := ⟨_, rfl⟩
          rw [htn] at c1 d1 HBO HBA
          have HTN := Lib.hid htn
          clear htn
          have HV := Lib.hid (show stW wr bx (.slice none 0 0) (.string ⟨#[117, 112]⟩) (.bool false) (.slice (some ⟨wr.heap.size, 0, none⟩) 1 1) (.cells #[.slice none 0 0, .string tn, .bool false, .slice kA kn kc] 28) = _ from rfl)
          unfold stW at HV
          go_wp2_with fail
          have hgr := stW_grown wr bx (.slice none 0 0) (.string ⟨#[117, 112]⟩) (.bool false) (.slice (some ⟨wr.heap.size, 0, none⟩) 1 1) (.cells #[.slice none 0 0, .string tn, .bool false, .slice kA kn kc] 28)
          have hbk := stW_blk HBO.out (.slice none 0 0) (.string ⟨#[117, 112]⟩) (.bool false) (.slice (some ⟨wr.heap.size, 0, none⟩) 1 1) (.cells #[.slice none 0 0, .string tn, .bool false, .slice kA kn kc] 28)
          have hnw := stW_new wr bx (.slice none 0 0) (.string ⟨#[117, 112]⟩) (.bool false) (.slice (some ⟨wr.heap.size, 0, none⟩) 1 1) 28 [.slice none 0 0, .string tn, .bool false, .slice kA kn kc]
          have hok := okAt_up (b := bx) (g := wr.heap.size) (nm := ⟨#[117, 112]⟩) (Nat.ne_of_gt hbl) (by rw [HTN.out]; exact hnw) HMV.out HKV.out HU.out.goes (HO.out.next hgr)
          have hup := HU.out.up HWN.out (.slice (some ⟨wr.heap.size, 0, none⟩) 1 1)
          have hbe := HB.out.grown hgr HB.out.size (fun g hg => by injection hg with hg; omega)
          have hs2 := HS.out.next hgr
          clear c0' c1 c2 c3 d0 d1 d2 d3 f0 f1 f2 f3 HV
          go_roundg g
          case measure => omega
          case rel => exact ⟨j + 1, .mk (.slice none 0 0) [] ⟨#[117, 112]⟩ false (.slice (some ⟨wr.heap.size, 0, none⟩) 1 1) [T], some ⟨wr.heap.size, 0, none⟩, 1, 1, by omega, by go_num, hbk, rfl, rfl, hup, hok, hs2, hbe⟩
        | zero =>
          obtain rfl : j = D := by omega
          have HK3 := Lib.hid (((((Kept.start w).below HB.out).add HBO.out.stays).add (P := fun V => Slc V 1 (.slice A W.length cA) W.length (strs W)) (fun V hb => HS.out.below hb)).add (P := okAt (2 + j) T) (fun V hb => HO.out.below hb))
          clear HB HBO HO HS
          obtain ⟨tn, htn⟩ : ∃ t, T.nm = t := ⟨_, rfl⟩
          rw [htn] at HK3
          have HTN := Lib.hid htn
          clear htn
          have HL0 := Lib.hid (LowOk.start)
          have HB2 := Lib.hid (Blk.mk (heap_alloc_new wr (.cells #[.slice none 0 0, .string ⟨#[120]⟩, .bool false, .slice none 0 0] 28)) : Blk _ wr.heap.size 28 [.slice none 0 0, .string ⟨#[120]⟩, .bool false, .slice none 0 0])
          have HBE2 := Lib.hid ((Below.refl wr.heap.size wr).alloc (Nat.le_refl _) (.cells #[.slice none 0 0, .string ⟨#[120]⟩, .bool false, .slice none 0 0] 28))
          have hok0 : ∀ V, okAt 1 (.mk (.slice none 0 0) [] ⟨#[120]⟩ false (.slice none 0 0) []) V := fun V => ⟨⟨none, 0, rfl, Sees.nil, Nat.le_refl _, by simp [RT.ms]⟩, ⟨none, 0, rfl, Sees.nil, Nat.le_refl _, by simp [RT.kids]⟩, (fun x hx => absurd hx List.not_mem_nil)⟩
          have HO0 := Lib.hid hok0
          clear hok0
          go_wp2_with fail
          obtain ⟨W3, hW3⟩ : ∃ V, wr = V := ⟨_, rfl⟩
          rw [hW3] at HK3 HB2 HBE2
          try rw [hW3]
          clear hW3
          go_loopg [66] 8 (fun g x66 wl => ∃ (q : Nat) (TL : RT) (lA : Option Addr) (ln lc : Nat), q + g = 8 ∧ x66 = .int .i64 q ∧ Blk wl W3.heap.size 28 [.slice none 0 0, .string TL.nm, .bool false, .slice lA ln lc] ∧ TL.mv = .slice none 0 0 ∧ TL.kv = .slice lA ln lc ∧ TL.goes = false ∧ LowOk q TL ∧ StaysB W3.heap.size (okAt (q + 1) TL) wl ∧ Below W3.heap.size W3 wl)
          case atStart => exact ⟨0, .mk (.slice none 0 0) [] ⟨#[120]⟩ false (.slice none 0 0) [], none, 0, 0, by omega, rfl, HB2.out, rfl, rfl, rfl, HL0.out, fun V _ => HO0.out V, HBE2.out⟩
          case round =>
            obtain ⟨q, TL, lA, ln, lc, hqg, rfl, hbox, hmv, hkv, hgo, hlow, hok, hbel⟩ := hrel
            have HB := Lib.hid hbel; have HBO := Lib.hid hbox; have HMV2 := Lib.hid hmv; have HKV2 := Lib.hid hkv; have HGO2 := Lib.hid hgo; have HLW := Lib.hid hlow; have HO := Lib.hid hok
            have hw3 := hbel.size
            clear hbox hmv hkv hgo hlow hok hbel HB2 HBE2 HL0 HO0
            cases gk with
            | succ g =>
              have c0' := HBO.out.cell 0
              have c1 := HBO.out.cell 1
              have c2 := HBO.out.cell 2
              have c3 := HBO.out.cell 3
              simp only [List.getElem?_cons_zero, List.getElem?_cons_succ] at c0' c1 c2 c3
              have hbl := HBO.out.lt
              obtain ⟨ln2, htn⟩ : ∃ t, TL.nm = t := ⟨_, rfl⟩
              rw [htn] at c1 HBO
              have HTN2 := Lib.hid htn
              clear htn
              have HBA := Lib.hid (HBO.out.alloc (.cells #[.slice none 0 0, .string ln2, .bool false, .slice lA ln lc] 28))
              have d0 := HBA.out.cell 0
              have d1 := HBA.out.cell 1
              have d2 := HBA.out.cell 2
              have d3 := HBA.out.cell 3
              simp only [List.getElem?_cons_zero, List.getElem?_cons_succ] at d0 d1 d2 d3
              have f0 := HBO.out.frozen 0
              have f1 := HBO.out.frozen 1
              have f2 := HBO.out.frozen 2
              have f3 := HBO.out.frozen 3
              have hq8 : q < 8 := by omega
              go_wp2_with fail
              have hgr := stW_grown wr W3.heap.size (.slice none 0 0) (.string ⟨#[120]⟩) (.bool false) (.slice (some ⟨wr.heap.size, 0, none⟩) 1 1) (.cells #[.slice none 0 0, .string ln2, .bool false, .slice lA ln lc] 28)
              have hbk := stW_blk HBO.out (.slice none 0 0) (.string ⟨#[120]⟩) (.bool false) (.slice (some ⟨wr.heap.size, 0, none⟩) 1 1) (.cells #[.slice none 0 0, .string ln2, .bool false, .slice lA ln lc] 28)
              have hnw := stW_new wr W3.heap.size (.slice none 0 0) (.string ⟨#[120]⟩) (.bool false) (.slice (some ⟨wr.heap.size, 0, none⟩) 1 1) 28 [.slice none 0 0, .string ln2, .bool false, .slice lA ln lc]
              have hok := okAt_up (b := W3.heap.size) (g := wr.heap.size) (nm := ⟨#[120]⟩) (Nat.ne_of_gt hbl) (by rw [HTN2.out]; exact hnw) HMV2.out HKV2.out HGO2.out (HO.out.next hgr)
              have hup := HLW.out.up (.slice (some ⟨wr.heap.size, 0, none⟩) 1 1)
              have hbe := HB.out.grown hgr HB.out.size (fun g hg => by injection hg with hg; omega)
              clear c0' c1 c2 c3 d0 d1 d2 d3 f0 f1 f2 f3
              go_roundg g
              case measure => omega
              case rel => exact ⟨q + 1, .mk (.slice none 0 0) [] ⟨#[120]⟩ false (.slice (some ⟨wr.heap.size, 0, none⟩) 1 1) [TL], some ⟨wr.heap.size, 0, none⟩, 1, 1, by omega, by go_num, hbk, rfl, rfl, rfl, hup, hok, hbe⟩
            | zero =>
              obtain rfl : q = 8 := by omega
              have HK4 := Lib.hid (((HK3.out.below HB.out).add HBO.out.stays).add (P := okAt 9 TL) (fun V hb => HO.out.below hb))
              clear HK3 HB HBO HO
              obtain ⟨W4, hW4⟩ : ∃ V, wr = V := ⟨_, rfl⟩
              rw [hW4] at HK4
              try rw [hW4]
              clear hW4
              obtain ⟨lm, hlm⟩ : ∃ t, TL.nm = t := ⟨_, rfl⟩
              rw [hlm] at HK4
              have HLM := Lib.hid hlm
              clear hlm
              obtain ⟨b2, hb2⟩ : ∃ b, W3.heap.size = b := ⟨_, rfl⟩
              rw [hb2] at HK4
              try rw [hb2]
              clear hb2
              go_wp2_with (at_make; refine wpList_make_full _ rfl _ _ 26 rfl W4.heap.size 28 i0 (.agg #[.slice none 0 0, .string ⟨#[]⟩, .bool false, .slice none 0 0]) 4 Try.underlying26 hi0 hz0 hz1 _ _ _ _ 16 rfl rfl rfl rfl (by rw [hz2]; omega) (by unfold maxLen; omega) (Nat.le_refl _) ?_)
              intro w1 hown hgr
              have HBL := Lib.hid ((Below.refl W4.heap.size W4).grown hgr (Nat.le_refl _) (by simp))
              have HBK := Lib.hid (show Blk w1 W4.heap.size 28 (quad ((wideK 0).map RT.cells)) by
                have h := Blk.of_own hown
                rw [show (madeCells #[.slice none 0 0, .string ⟨#[]⟩, .bool false, .slice none 0 0] 64).toList = quad ((wideK 0).map RT.cells) from wide_zero] at h
                exact h)
              have HBX5 := Lib.hid (Blk.mk (heap_alloc_new w1 (.cells #[.slice none 0 0, .string ⟨#[120]⟩, .bool false, .slice (some ⟨W4.heap.size, 0, none⟩) 16 16] 28)) : Blk _ w1.heap.size 28 [.slice none 0 0, .string ⟨#[120]⟩, .bool false, .slice (some ⟨W4.heap.size, 0, none⟩) 16 16])
              have HBK5 := Lib.hid (HBK.out.alloc (.cells #[.slice none 0 0, .string ⟨#[120]⟩, .bool false, .slice (some ⟨W4.heap.size, 0, none⟩) 16 16] 28))
              have HBL5 := Lib.hid (HBL.out.alloc HBL.out.size (.cells #[.slice none 0 0, .string ⟨#[120]⟩, .bool false, .slice (some ⟨W4.heap.size, 0, none⟩) 16 16] 28))
              have hsz := HBK.out.lt
              clear hown hgr HBL HBK
              obtain ⟨W5, hW5⟩ : ∃ V, w1.alloc (.cells #[.slice none 0 0, .string ⟨#[120]⟩, .bool false, .slice (some ⟨W4.heap.size, 0, none⟩) 16 16] 28) = V := ⟨_, rfl⟩
              obtain ⟨gk, hgk⟩ : ∃ b, W4.heap.size = b := ⟨_, rfl⟩
              obtain ⟨bw, hbw2⟩ : ∃ b, w1.heap.size = b := ⟨_, rfl⟩
              have HW5 := Lib.hid hW5; have HGK := Lib.hid hgk; have HBW := Lib.hid hbw2
              rw [hW5] at HBX5 HBK5 HBL5
              rw [hbw2, hgk] at HBX5
              rw [hgk] at HBK5
              rw [hgk, hbw2] at hsz
              clear hW5 hgk hbw2
              go_upto_region 25 with fail
              rw [HW5.out, HBW.out, HGK.out]
              have c3 := HBX5.out.cell 3
              simp only [List.getElem?_cons_zero, List.getElem?_cons_succ] at c3
              go_wp2_with fail
              clear c3
              go_loopg [77] 16 (fun g x77 wl => ∃ k : Nat, k + g = 16 ∧ x77 = .int .i64 k ∧ Blk wl gk 28 (quad ((wideK k).map RT.cells)) ∧ Blk wl bw 28 [.slice none 0 0, .string ⟨#[120]⟩, .bool false, .slice (some ⟨gk, 0, none⟩) 16 16] ∧ Below W4.heap.size W4 wl)
              case atStart => exact ⟨0, by omega, rfl, HBK5.out, HBX5.out, HBL5.out⟩
              case round =>
                obtain ⟨k, hkg, rfl, hbk, hbx2, hbel⟩ := hrel
                have HB := Lib.hid hbel; have HBK := Lib.hid hbk; have HBX6 := Lib.hid hbx2
                clear hbk hbx2 hbel HBX5 HBK5 HBL5
                cases gk with
                | succ g =>
                  have hk16 : k < 16 := by omega
                  have c3 := HBX6.out.cell 3
                  simp only [List.getElem?_cons_zero, List.getElem?_cons_succ] at c3
                  have hnew := HBK.out.set (k * 4 + 1) (.string ⟨#[121]⟩)
                  rw [wide_set hk16] at hnew
                  have HNW := Lib.hid hnew
                  clear hnew
                  have e1 := HBK.out.cell (k * 4 + 1)
                  rw [(quad_get ((wideK k).map RT.cells) k (by simp [wideK]; omega)).2.1, List.getElem_map] at e1
                  change _ = some (Value.string _) at e1
                  have f1 := HBK.out.frozen (k * 4 + 1)
                  generalize ((wideK k)[k]'(by simp [wideK]; omega)).nm = old at *
                  have HX7 := Lib.hid (HBX6.out.far (p := ⟨gk, k * 4 + 1, none⟩) (Nat.ne_of_gt hsz) (.string ⟨#[121]⟩))
                  have HB7 := Lib.hid (HB.out.setCell (p := ⟨gk, k * 4 + 1, none⟩) (by rw [HGK.out]; exact Nat.le_refl _) (.string ⟨#[121]⟩))
                  go_wp2_with fail
                  go_roundg g
                  case measure => omega
                  case rel => exact ⟨k + 1, by omega, by go_num, HNW.out, HX7.out, HB7.out⟩
                | zero =>
                  obtain rfl : k = 16 := by omega
                  have HT := Lib.hid (show Kept w [okAt 2 (wideT (.slice (some ⟨gk, 0, none⟩) 16 16)), fun V => Blk V bw 28 [.slice none 0 0, .string ⟨#[120]⟩, .bool false, .slice (some ⟨gk, 0, none⟩) 16 16], okAt 9 TL, fun V => Blk V b2 28 [.slice none 0 0, .string lm, .bool false, .slice lA ln lc], okAt (2 + j) T, fun V => Slc V 1 (.slice A W.length cA) W.length (strs W), fun V => Blk V bx 28 [.slice none 0 0, .string tn, .bool false, .slice kA kn kc]] wr from ((HK4.out.below HB.out).add HBX6.out.stays).add (P := okAt 2 (wideT (.slice (some ⟨gk, 0, none⟩) 16 16))) (fun V hb => wide_ok (HBK.out.below hb HBK.out.lt)))
                  have hcz : countF (2 + j) T ≤ 16 := by have := HU.out.count; omega
                  have hrt : rightT (2 + j) T = true := by
                    unfold rightT
                    rw [HU.out.ms, HU.out.right 1 (by omega), decide_eq_true hcz]; rfl
                  have htv : T.val = .agg #[.slice none 0 0, .string tn, .bool false, .slice kA kn kc] := by unfold RT.val; rw [HMV.out, HTN.out, HU.out.goes, HKV.out]
                  have hlv : TL.val = .agg #[.slice none 0 0, .string lm, .bool false, .slice lA ln lc] := by unfold RT.val; rw [HMV2.out, HLM.out, HGO2.out, HKV2.out]
                  have hlr : rightT 9 TL = false := by
                    unfold rightT
                    rw [HLW.out.wrong 1 (by omega), Bool.false_and, Bool.and_false]
                  have hlc : countF 9 TL = 9 := HLW.out.count
                  have hWl : W.length ≤ 1000 := by
                    have h1 := toF_len [] (2 + j) T
                    rw [HU.out.to_] at h1; omega
                  have htr : toR (2 + j) T [] = W := by unfold toR; rw [hrt, if_pos rfl, HU.out.to_]
                  have HR1 : Hid (∀ V, Kept w [okAt 2 (wideT (.slice (some ⟨gk, 0, none⟩) 16 16)), fun V => Blk V bw 28 [.slice none 0 0, .string ⟨#[120]⟩, .bool false, .slice (some ⟨gk, 0, none⟩) 16 16], okAt 9 TL, fun V => Blk V b2 28 [.slice none 0 0, .string lm, .bool false, .slice lA ln lc], okAt (2 + j) T, fun V => Slc V 1 (.slice A W.length cA) W.length (strs W), fun V => Blk V bx 28 [.slice none 0 0, .string tn, .bool false, .slice kA kn kc]] V → Calls Try.prog 9 #[.agg #[.slice none 0 0, .string tn, .bool false, .slice kA kn kc], .slice none 0 0] V (StrsAns W V)) := Lib.hid (fun V h => by
                    have h1 := To_any (.slice none 0 0) [] (2 + j) T V h.p4 ⟨none, 0, rfl, Sees.nil, Nat.le_refl _, by simp⟩ (by omega)
                    rw [hrt, if_pos rfl, HU.out.to_, htv] at h1; exact h1)
                  have HR2 : Hid (∀ V, Kept w [okAt 2 (wideT (.slice (some ⟨gk, 0, none⟩) 16 16)), fun V => Blk V bw 28 [.slice none 0 0, .string ⟨#[120]⟩, .bool false, .slice (some ⟨gk, 0, none⟩) 16 16], okAt 9 TL, fun V => Blk V b2 28 [.slice none 0 0, .string lm, .bool false, .slice lA ln lc], okAt (2 + j) T, fun V => Slc V 1 (.slice A W.length cA) W.length (strs W), fun V => Blk V bx 28 [.slice none 0 0, .string tn, .bool false, .slice kA kn kc]] V → Calls Try.prog 16 #[.agg #[.slice none 0 0, .string tn, .bool false, .slice kA kn kc], .slice (some ⟨V.heap.size, 0, none⟩) 2 2] (V.alloc (.cells #[.slice none 0 0, .slice none 0 0] 31)) fun e w' => ∃ A c, e = .returned (.slice A W.length c) ∧ Slc w' 1 (.slice A W.length c) W.length (strs W) ∧ Below V.heap.size V w') := Lib.hid (fun V h => by
                    have hn : ∀ U, HasL U (.slice none 0 0) [] := fun U => ⟨none, 0, rfl, Sees.nil, Nat.le_refl _, by simp⟩
                    have hs : SetsAt (V.alloc (.cells #[.slice none 0 0, .slice none 0 0] 31)) (some ⟨V.heap.size, 0, none⟩) 2 [(.slice none 0 0, []), (.slice none 0 0, [])] :=
                      ⟨(Blk.mk (heap_alloc_new V _) : Blk _ V.heap.size 31 [.slice none 0 0, .slice none 0 0]).sees rfl (List.prefix_refl _), fun x hx => by
                        rcases List.mem_cons.1 hx with rfl | hx
                        · exact hn _
                        · rw [List.mem_singleton] at hx; subst hx; exact hn _⟩
                    have h1 := All_any (2 + j) T (some ⟨V.heap.size, 0, none⟩) 2 2 _ _ (h.alloc _).p4 hs (by omega) (by omega)
                    rw [htv, show allR (2 + j) T (([((.slice none 0 0 : Value), ([] : List Lbl)), (.slice none 0 0, [])]).map Prod.snd) = W ++ (W ++ []) by
                      show [[], []].flatMap (toR (2 + j) T) = _
                      simp [htr], want_twice HWR.out] at h1
                    refine h1.mono fun e w' hh => ?_
                    obtain ⟨A', c', e1, h2, h3⟩ := slc_ans hh
                    exact ⟨A', c', e1, h2, ((Below.refl V.heap.size V).alloc (Nat.le_refl _) _).trans (h3.mono (by simp))⟩)
                  have HR3 : Hid (∀ V, Kept w [okAt 2 (wideT (.slice (some ⟨gk, 0, none⟩) 16 16)), fun V => Blk V bw 28 [.slice none 0 0, .string ⟨#[120]⟩, .bool false, .slice (some ⟨gk, 0, none⟩) 16 16], okAt 9 TL, fun V => Blk V b2 28 [.slice none 0 0, .string lm, .bool false, .slice lA ln lc], okAt (2 + j) T, fun V => Slc V 1 (.slice A W.length cA) W.length (strs W), fun V => Blk V bx 28 [.slice none 0 0, .string tn, .bool false, .slice kA kn kc]] V → Calls Try.prog 15 #[.agg #[.slice none 0 0, .string lm, .bool false, .slice lA ln lc]] V fun e w' => e = .returned (.bool false) ∧ Below V.heap.size V w') := Lib.hid (fun V h => by
                    have h1 := rightT_any 9 TL V h.p2 (by omega)
                    rw [hlr, hlv] at h1; exact h1)
                  have HR4 : Hid (∀ V, Kept w [okAt 2 (wideT (.slice (some ⟨gk, 0, none⟩) 16 16)), fun V => Blk V bw 28 [.slice none 0 0, .string ⟨#[120]⟩, .bool false, .slice (some ⟨gk, 0, none⟩) 16 16], okAt 9 TL, fun V => Blk V b2 28 [.slice none 0 0, .string lm, .bool false, .slice lA ln lc], okAt (2 + j) T, fun V => Slc V 1 (.slice A W.length cA) W.length (strs W), fun V => Blk V bx 28 [.slice none 0 0, .string tn, .bool false, .slice kA kn kc]] V → Calls Try.prog 15 #[.agg #[.slice none 0 0, .string ⟨#[120]⟩, .bool false, .slice (some ⟨gk, 0, none⟩) 16 16]] V fun e w' => e = .returned (.bool false) ∧ Below V.heap.size V w') := Lib.hid (fun V h => by
                    have h1 := rightT_any 2 _ V h.p0 (by rw [wide_count]; omega)
                    rw [wide_right] at h1; exact h1)
                  have HR5 : Hid (∀ V, Kept w [okAt 2 (wideT (.slice (some ⟨gk, 0, none⟩) 16 16)), fun V => Blk V bw 28 [.slice none 0 0, .string ⟨#[120]⟩, .bool false, .slice (some ⟨gk, 0, none⟩) 16 16], okAt 9 TL, fun V => Blk V b2 28 [.slice none 0 0, .string lm, .bool false, .slice lA ln lc], okAt (2 + j) T, fun V => Slc V 1 (.slice A W.length cA) W.length (strs W), fun V => Blk V bx 28 [.slice none 0 0, .string tn, .bool false, .slice kA kn kc]] V → Calls Try.prog 9 #[.agg #[.slice none 0 0, .string ⟨#[120]⟩, .bool false, .slice (some ⟨gk, 0, none⟩) 16 16], .slice none 0 0] V (StrsAns [] V)) := Lib.hid (fun V h => by
                    have h1 := To_any (.slice none 0 0) [] 2 _ V h.p0 ⟨none, 0, rfl, Sees.nil, Nat.le_refl _, by simp⟩ (by rw [wide_count]; omega)
                    rw [wide_right, if_neg (by simp)] at h1; exact h1)
                  have HR6 : Hid (∀ V, Kept w [okAt 2 (wideT (.slice (some ⟨gk, 0, none⟩) 16 16)), fun V => Blk V bw 28 [.slice none 0 0, .string ⟨#[120]⟩, .bool false, .slice (some ⟨gk, 0, none⟩) 16 16], okAt 9 TL, fun V => Blk V b2 28 [.slice none 0 0, .string lm, .bool false, .slice lA ln lc], okAt (2 + j) T, fun V => Slc V 1 (.slice A W.length cA) W.length (strs W), fun V => Blk V bx 28 [.slice none 0 0, .string tn, .bool false, .slice kA kn kc]] V → Calls Try.prog 10 #[.agg #[.slice none 0 0, .string ⟨#[120]⟩, .bool false, .slice (some ⟨gk, 0, none⟩) 16 16]] V fun e w' => e = .returned (.int .i64 17) ∧ Below V.heap.size V w') := Lib.hid (fun V h => by
                    have h1 := count_any 2 _ V h.p0 (by rw [wide_count]; omega)
                    rw [wide_count] at h1; exact h1)
                  have HSM := Lib.hid (fun (V : World) (A1 : Option Addr) (c1 : Nat) (h : Slc V 1 (.slice A1 W.length c1) W.length (strs W)) (h2 : Kept w [okAt 2 (wideT (.slice (some ⟨gk, 0, none⟩) 16 16)), fun V => Blk V bw 28 [.slice none 0 0, .string ⟨#[120]⟩, .bool false, .slice (some ⟨gk, 0, none⟩) 16 16], okAt 9 TL, fun V => Blk V b2 28 [.slice none 0 0, .string lm, .bool false, .slice lA ln lc], okAt (2 + j) T, fun V => Slc V 1 (.slice A W.length cA) W.length (strs W), fun V => Blk V bx 28 [.slice none 0 0, .string tn, .bool false, .slice kA kn kc]] V) => same_two h h2.p5 hWl)
                  clear hcz hrt htv hlv hlr hlc htr HB HBK HBX6 HK4 HU HLW
                  have b0 := HT.out.p6.cell 0; have b1 := HT.out.p6.cell 1; have b2' := HT.out.p6.cell 2; have b3 := HT.out.p6.cell 3; have b4 := HT.out.p6.lt
                  simp only [List.getElem?_cons_zero, List.getElem?_cons_succ] at b0 b1 b2' b3
                  go_wp2_with fail
                  (with_reducible refine (HR1.out _ HT.out).mono ?_); rintro e wq hh; obtain ⟨A5, c5, rfl, hs5, hbq⟩ := slc_ans hh
                  have HT_n := Lib.hid (HT.out.below hbq); clear HT; have HT := HT_n; clear HT_n
                  clear hbq hh b0 b1 b2' b3 b4
                  go_wp2_with fail
                  (with_reducible refine (HSM.out _ _ _ hs5 HT.out).mono ?_); rintro e wq2 ⟨rfl, hbq⟩
                  have HT_n := Lib.hid (HT.out.below hbq); clear HT; have HT := HT_n; clear HT_n
                  clear hbq hs5
                  have b0 := HT.out.p6.cell 0; have b1 := HT.out.p6.cell 1; have b2' := HT.out.p6.cell 2; have b3 := HT.out.p6.cell 3; have b4 := HT.out.p6.lt
                  simp only [List.getElem?_cons_zero, List.getElem?_cons_succ] at b0 b1 b2' b3
                  go_wp2_with fail
                  (with_reducible refine (HR2.out _ HT.out).mono ?_); rintro e wq3 ⟨A6, c6, rfl, hs6, hbq⟩
                  have HT_n := Lib.hid (HT.out.below hbq); clear HT; have HT := HT_n; clear HT_n
                  clear hbq b0 b1 b2' b3 b4
                  go_wp2_with fail
                  (with_reducible refine (HSM.out _ _ _ hs6 HT.out).mono ?_); rintro e wq4 ⟨rfl, hbq⟩
                  have HT_n := Lib.hid (HT.out.below hbq); clear HT; have HT := HT_n; clear HT_n
                  clear hbq hs6
                  have b0 := HT.out.p3.cell 0; have b1 := HT.out.p3.cell 1; have b2' := HT.out.p3.cell 2; have b3 := HT.out.p3.cell 3
                  simp only [List.getElem?_cons_zero, List.getElem?_cons_succ] at b0 b1 b2' b3
                  go_wp2_with fail
                  (with_reducible refine (HR3.out _ HT.out).mono ?_); rintro e wq5 ⟨rfl, hbq⟩
                  have HT_n := Lib.hid (HT.out.below hbq); clear HT; have HT := HT_n; clear HT_n
                  clear hbq b0 b1 b2' b3
                  have b0 := HT.out.p1.cell 0; have b1 := HT.out.p1.cell 1; have b2' := HT.out.p1.cell 2; have b3 := HT.out.p1.cell 3
                  simp only [List.getElem?_cons_zero, List.getElem?_cons_succ] at b0 b1 b2' b3
                  go_wp2_with fail
                  (with_reducible refine (HR4.out _ HT.out).mono ?_); rintro e wq6 ⟨rfl, hbq⟩
                  have HT_n := Lib.hid (HT.out.below hbq); clear HT; have HT := HT_n; clear HT_n
                  clear hbq b0 b1 b2' b3
                  have b0 := HT.out.p1.cell 0; have b1 := HT.out.p1.cell 1; have b2' := HT.out.p1.cell 2; have b3 := HT.out.p1.cell 3
                  simp only [List.getElem?_cons_zero, List.getElem?_cons_succ] at b0 b1 b2' b3
                  go_wp2_with fail
                  (with_reducible refine (HR5.out _ HT.out).mono ?_); rintro e wq7 hh; obtain ⟨A7, c7, rfl, hs7, hbq⟩ := slc_ans hh
                  have HT_n := Lib.hid (HT.out.below hbq); clear HT; have HT := HT_n; clear HT_n
                  clear hbq hh hs7 b0 b1 b2' b3
                  have b0 := HT.out.p1.cell 0; have b1 := HT.out.p1.cell 1; have b2' := HT.out.p1.cell 2; have b3 := HT.out.p1.cell 3
                  simp only [List.getElem?_cons_zero, List.getElem?_cons_succ] at b0 b1 b2' b3
                  go_wp2_with fail
                  (with_reducible refine (HR6.out _ HT.out).mono ?_); rintro e wq8 ⟨rfl, hbq⟩
                  have HT_n := Lib.hid (HT.out.below hbq); clear HT; have HT := HT_n; clear HT_n
                  clear hbq b0 b1 b2' b3
                  go_wp2_with fail
                  (with_reducible refine (route_runs _).mono ?_); rintro e wq ⟨rfl, hbq⟩
                  have HT_n := Lib.hid (HT.out.below hbq); clear HT hbq; have HT := HT_n; clear HT_n
                  go_wp2_with fail
                  go_ret
                  exact ⟨rfl, HT.out.bel⟩
end Go.Proofs.Ytddkkfjgdfdcnaa
