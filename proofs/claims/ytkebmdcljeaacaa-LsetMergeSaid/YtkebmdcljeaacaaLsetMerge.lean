/- The walk of LsetMerge. -/
import Derived.Test.YtkebmdcljeaacaaMergeMath
import Derived.Deep.RegionLaw
import Derived.Deep.CutBlock
namespace Go.Proofs.Ytkebmdcljeaacaa
open Go.ChangeShapes Go.WideShapes Go.ChangeAt Go.RowKit
set_option linter.unusedVariables false
set_option maxRecDepth 100000
/-- An append, as one step of a region that draws. -/
theorem step_append_own {P : Program} {w : World} {ops : Array Oper} {o : Oper} {a : Act} {K : Act → World → Prop} {Q : Exit → Act → World → Prop} {E : Prop} (hgd : o.guard = none) (s x : Operand) (t : TypeId)
    (ho : o.op = .call { callee := .builtin .append, args := #[s, x], argTypes := #[t, t] })
    (base : Nat) (e : TypeId) (i : TypeInfo) (z : Value) (size bytes : Nat) (ht : P.underlying t = some (.slice e)) (hi : P.info? e = some i) (hz : i.zero = some z)
    (hsize : i.size = size) (hby : i.bytes = bytes) (hzs : z.cells.size = size) (hsz : 0 < size)
    (v : Value) (n : Nat) (xs : List Value) (hv : a.eval s = v) (hown : w.ownsRow base e size v n xs)
    (B : Nat) (A : Option Addr) (m c : Nat) (news : List Value) (hx : a.eval x = .slice A m c) (hs : Sees w B size A m news) (h1 : ∀ u ∈ news, u.oneCell' = true)
    (h63 : n + m ≤ maxLen) (hbytes : (n + m) * bytes ≤ 140737488355328) (hbase : base ≤ w.heap.size)
    (h : ∀ A' c' w', w'.ownsRow base e size (.slice A' (n + m) c') (n + m) (xs ++ news) → w.grownBy w' v.ownBlock → K (a.put o.dst (.slice A' (n + m) c')) w') :
    if Region.wanted o (yielded ops a.tmps) = true then Oper.wp P o a w K Q else E := by
  have hw : Region.wanted o (yielded ops a.tmps) = true := by simp [Region.wanted, hgd]
  rw [if_pos hw]
  obtain ⟨v', w', hr, h2, h3⟩ := append_run (P := P) w base t o.type e i z size bytes ht hi hz hsize hby hzs hsz v n xs hown B A m c news hs h1 h63 hbytes hbase
  obtain ⟨A', c', rfl, _, _⟩ := own_slice h2
  unfold Oper.wp execOp
  simp only [ho, resolve, invoke, builtin, Sem.run_bind, Sem.run_pure, Result.andThen_ok, List.map_toArray, List.map_cons, List.map_nil, hv, hx, hr]
  exact h A' c' w' h2 h3
/-- Lists that stay, and the box of a set. -/
structure MgAt (w0 : World) (S : List (Value × List Lbl)) (kb : KSet) (bb : Nat) (w : World) : Prop where
  h : Holds w0 S w
  ok : kb.ok w0.heap.size w
  box : Blk w bb 42 [.slice kb.A kb.n kb.c, .slice kb.A2 kb.n2 kb.c2]
section
variable {w0 w w' : World} {S : List (Value × List Lbl)} {kb : KSet} {bb : Nat}
theorem MgAt.below (h : MgAt w0 S kb bb w) (hb : Below w.heap.size w w') : MgAt w0 S kb bb w' := ⟨h.h.below hb, h.ok.below (hb.mono h.h.2.size), h.box.below hb h.box.lt⟩
theorem MgAt.drewN (h : MgAt w0 S kb bb w) (n : Nat) : MgAt w0 S kb bb (w.drewN n) := ⟨h.h.drewN n, ⟨h.ok.has_.drewN n, h.ok.hasI, h.ok.n_, h.ok.vals_.drewN n, h.ok.valsI, h.ok.n2_⟩, h.box.drewN n⟩
theorem MgAt.alloc (h : MgAt w0 S kb bb w) (o : Obj) : MgAt w0 S kb bb (w.alloc o) := h.below ((Below.refl _ _).alloc (Nat.le_refl _) o)
theorem MgAt.add (h : MgAt w0 S kb bb w) {v : Value} {l : List Lbl} (hv : HasL w v l) : MgAt w0 ((v, l) :: S) kb bb w := ⟨h.h.add hv, h.ok, h.box⟩
theorem MgAt.get (h : MgAt w0 S kb bb w) {v : Value} {l : List Lbl} (hm : (v, l) ∈ S) : HasL w v l := h.h.get hm
theorem MgAt.less (h : MgAt w0 S kb bb w) {S' : List (Value × List Lbl)} (hs : ∀ p ∈ S', p ∈ S) : MgAt w0 S' kb bb w := ⟨⟨fun p hp => h.h.1 p (hs p hp), h.h.2⟩, h.ok, h.box⟩
theorem MgAt.bel (h : MgAt w0 S kb bb w) : Below w0.heap.size w0 w := h.h.2
end
theorem hasL_own {w : World} {base : Nat} {A : Option Addr} {n c : Nat} {l : List Lbl} (h : w.ownsRow base 23 2 (.slice A n c) n (lbls l)) : HasL w (.slice A l.length c) l := by
  have hl : l.length = n := by have := h.1; rw [lbls_length] at this; omega
  obtain ⟨A', c', h1, h2, h3⟩ := own_slice h
  injection h1 with h1 h4 h5; subst h1; subst h5
  rw [hl]
  exact ⟨A, c, by rw [hl], by rw [hl]; exact Sees.of_own h, by rw [hl]; exact h2, h3⟩
theorem hasL_nil (w : World) : HasL w (.slice none 0 0) [] := ⟨none, 0, rfl, Sees.nil, Nat.le_refl _, by omega⟩
theorem names_sees (w : World) : Sees (w.alloc (.cells (strs keepNames).toArray 9)) (w.alloc (.cells (strs keepNames).toArray 9)).heap.size 1 (some ⟨w.heap.size, 0, none⟩) 4 (strs keepNames) :=
  (Blk.mk (heap_alloc_new w _) : Blk _ w.heap.size 9 (strs keepNames)).sees rfl (List.prefix_refl _)
theorem one_name2 (w : World) (o : Obj) (name : ByteArray) : Sees ((w.alloc o).alloc (.cells #[.string name] 9)) ((w.alloc o).alloc (.cells #[.string name] 9)).heap.size 1 (some ⟨w.heap.size + 1, 0, none⟩) 1 (strs [name]) := by
  have h := one_name (w.alloc o) name
  rwa [show (⟨(w.alloc o).heap.size, 0, none⟩ : Addr) = ⟨w.heap.size + 1, 0, none⟩ by simp] at h
theorem cmp_three {la lb : List Lbl} (ha : rightS la = true) (hb : rightS lb = true) : ∃ ca cb : Int, Lib.compareBytes (printL la) (printL lb) = ca ∧ Lib.compareBytes (printL lb) (printL la) = cb ∧
    ((decide (la = lb) = true ∧ ca = 0 ∧ cb = 0) ∨ (decide (la = lb) = false ∧ ca = 1 ∧ cb = -1) ∨ (decide (la = lb) = false ∧ ca = -1 ∧ cb = 1)) := by
  rcases cmp_cases ha hb with ⟨h, h1, h2⟩ | ⟨h, ⟨h1, h2⟩ | ⟨h1, h2⟩⟩
  · exact ⟨0, 0, h1, h2, .inl ⟨decide_eq_true h, rfl, rfl⟩⟩
  · exact ⟨1, -1, h1, h2, .inr (.inl ⟨decide_eq_false h, rfl, rfl⟩)⟩
  · exact ⟨-1, 1, h1, h2, .inr (.inr ⟨decide_eq_false h, rfl, rfl⟩)⟩
set_option maxHeartbeats 8000000 in
theorem lset_merge (ka kb : KSet) (AO : Option Addr) (no co : Nat) (zo : List Int) (w : World) (ha : ka.ok w.heap.size w) (hb : kb.ok w.heap.size w) (hO : Sees w w.heap.size 1 AO no (ints zo)) (hno : no ≤ 9223372036854775807) (hzo : ∀ z ∈ zo, I64 z) :
    Calls Try.prog 8 #[ka.val, kb.val, .slice AO no co] w fun e w' => e = .returned (.bool true) ∧ Below w.heap.size w w' := by
  obtain ⟨i0, hi0, hz0, hz1, hz2⟩ := info_parts Try.infoLabel
  have HKA := Lib.hid (fun (W : World) (h : ka.ok w.heap.size W) (hB : w.heap.size ≤ W.heap.size) => keepset_any ka w.heap.size W h hB)
  have HKB := Lib.hid (fun (W : World) (h : kb.ok w.heap.size W) (hB : w.heap.size ≤ W.heap.size) => keepset_any kb w.heap.size W h hB)
  have HOA := Lib.hid ha; have HOB := Lib.hid hb; have HOR := Lib.hid hO; have HZO := Lib.hid hzo
  clear ha hb hO hzo
  unfold KSet.val at *
  go_enter Try.func8, Try.ntmps8
  have HB0 : Hid (Below w.heap.size w ((w.alloc (.cells #[.slice ka.A ka.n ka.c, .slice ka.A2 ka.n2 ka.c2] 42)).alloc (.cells #[.slice kb.A kb.n kb.c, .slice kb.A2 kb.n2 kb.c2] 42))) := Lib.hid (((Below.refl _ _).alloc (Nat.le_refl _) _).alloc (by simp) _)
  have HBX : Hid (Blk ((w.alloc (.cells #[.slice ka.A ka.n ka.c, .slice ka.A2 ka.n2 ka.c2] 42)).alloc (.cells #[.slice kb.A kb.n kb.c, .slice kb.A2 kb.n2 kb.c2] 42)) (w.heap.size + 1) 42 [.slice kb.A kb.n kb.c, .slice kb.A2 kb.n2 kb.c2]) := Lib.hid (by
    have h2 : Blk ((w.alloc (.cells #[.slice ka.A ka.n ka.c, .slice ka.A2 ka.n2 ka.c2] 42)).alloc (.cells #[.slice kb.A kb.n kb.c, .slice kb.A2 kb.n2 kb.c2] 42)) (w.alloc (.cells #[.slice ka.A ka.n ka.c, .slice ka.A2 ka.n2 ka.c2] 42)).heap.size 42 [.slice kb.A kb.n kb.c, .slice kb.A2 kb.n2 kb.c2] := Blk.mk (heap_alloc_new _ _)
    rwa [show (w.alloc (.cells #[.slice ka.A ka.n ka.c, .slice ka.A2 ka.n2 ka.c2] 42)).heap.size = w.heap.size + 1 by simp] at h2)
  go_wp2_with fail
  (with_reducible refine (HKA.out _ (HOA.out.below HB0.out) HB0.out.size).mono ?_); rintro e w1 hl1
  obtain ⟨A, cA, rfl, hl, hb1⟩ := ansL_of hl1
  have HM1 : Hid (MgAt w [(.slice A (setF ka).length cA, setF ka)] kb (w.heap.size + 1) w1) := Lib.hid ⟨⟨fun p hp => by simp only [List.mem_singleton] at hp; subst hp; exact hl, HB0.out.trans (hb1.mono HB0.out.size)⟩, HOB.out.below (HB0.out.trans (hb1.mono HB0.out.size)), HBX.out.below hb1 HBX.out.lt⟩
  clear hl1 hl hb1 HKA HOA HOB HBX HB0
  have HRA := Lib.hid (setF_right ka); have HRB := Lib.hid (setF_right kb)
  have HNA := Lib.hid (setF_names ka)
  have hla := setF_len ka
  have hlb := setF_len kb
  generalize setF ka = la at *
  generalize setF kb = lb at *
  obtain ⟨bb, hbb⟩ : ∃ bb, w.heap.size + 1 = bb := ⟨_, rfl⟩
  rw [hbb] at HM1
  rw [show (⟨w.heap.size + 1, 0, none⟩ : Addr) = ⟨bb, 0, none⟩ by rw [hbb]]
  clear hbb
  have hs1 := HM1.out.bel.size
  have HE0 := Lib.hid (World.ownsRow_made (base := w.heap.size) (e := 23) (size := 2) w1 #[] 0 hs1 (by unfold maxLen; omega) rfl)
  have HMA := Lib.hid (HM1.out.alloc (.cells #[] 23))
  go_wp2_with (at_builtin; refine wpList_append_at rfl (.tmp 19) (.tmp 20) 24 rfl w.heap.size 23 i0 (.agg #[.string ⟨#[]⟩, .string ⟨#[]⟩]) 2 32 Try.underlying24 hi0 hz0 hz1 hz2 rfl (by decide) (.slice (some ⟨w1.heap.size, 0, none⟩) 0 0) 0 [] rfl HE0.out _ A la.length cA (lbls la) rfl (HMA.out.get (v := .slice A la.length cA) (l := la) (by simp)).sees (lbls_one _) (by unfold maxLen; omega) (by omega) (by simp; omega) ?_)
  intro v2 w2 hown2 hgr2 hwh2
  obtain ⟨A2, c2, rfl, hc3, hc4⟩ := own_slice hown2
  have HM2 : Hid (MgAt w [(.slice A2 la.length c2, la), (.slice A la.length cA, la)] kb bb w2) := Lib.hid (by
    have hb : Below w1.heap.size w1 w2 := ((Below.refl _ _).alloc (Nat.le_refl _) _).grown hgr2 (by simp) (by simp [Value.ownBlock])
    have h1 := (HM1.out.below hb).add (hasL_own hown2)
    exact h1)
  clear hown2 hgr2 hwh2 HM1 HE0 HMA hs1
  go_upto_block 0 with fail
  go_cut [8] from 22 to 56 (fun x8 wx => ∃ (own : List Lbl) (X : Option Addr) (cx : Nat), x8 = .slice X own.length cx ∧ own.Perm la ∧ MgAt w [(.slice X own.length cx, own), (.slice A la.length cA, la)] kb bb wx)
  case first =>
    go_wp2_with fail
    go_loopg [8, 9] no (fun g x8 x9 wr => ∃ (i : Nat) (own : List Lbl) (X : Option Addr) (cx : Nat), i + g = no ∧ x9 = .int .i64 i ∧ x8 = .slice X own.length cx ∧ own.Perm la ∧ MgAt w [(.slice X own.length cx, own), (.slice A la.length cA, la)] kb bb wr)
    case atStart => exact ⟨0, la, A2, c2, by omega, rfl, rfl, List.Perm.refl _, HM2.out⟩
    case round =>
      obtain ⟨i, own, X, cx, hig, rfl, rfl, hperm, hmg⟩ := hrel
      have HP := Lib.hid hperm; have HM := Lib.hid hmg
      have hol : own.length = la.length := hperm.length_eq
      have hol3 : own.length ≤ 3 := by omega
      have HOL := Lib.hid hol
      clear hperm hmg HM2 hol
      cases gk with
      | zero =>
        obtain rfl : i = no := by omega
        go_wp2_with fail
        go_meet
        exact ⟨own, X, cx, rfl, HP.out, HM.out⟩
      | succ g =>
        have hlt : i < no := by omega
        by_cases h1 : 1 < own.length
        · have z1 : (1 : Int) < own.length := by omega
          obtain ⟨ado, hio, rfl, dO⟩ := (HOR.out.below HM.out.bel).int hlt
          have hiz := HZO.out zo[i] (List.getElem_mem _)
          generalize zo[i] = oi at *
          have HW := Lib.hid (within_any oi 0 ((own.length : Int) - 1) wr hiz (by omega) (by omega) (by omega))
          obtain ⟨hw1, hw2⟩ := nWithin_in oi (lo := 0) (hi := (own.length : Int) - 1) (by omega)
          generalize nWithin oi 0 ((own.length : Int) - 1) = q at *
          obtain ⟨k, rfl⟩ := Int.eq_ofNat_of_zero_le hw1
          have hk : k < own.length := by omega
          obtain ⟨hS, _, hcx1, hcx2⟩ := (HM.out.get (v := .slice X own.length cx) (l := own) (by simp)).slice
          have HS := Lib.hid hS
          obtain ⟨ad, hkl, rfl, c0, c1⟩ := hS.lbl hk
          have hal := World.block_lt_of_cell? wr _ c0
          have HTP := Lib.hid (turn_perm own k hk)
          have hws := HM.out.bel.size
          generalize own[k] = p at *
          obtain ⟨a, b⟩ := p
          simp only at c0 c1
          clear hiz hw1 hw2 hS
          go_wp2_with fail
          (with_reducible refine HW.out.mono ?_); rintro e w' ⟨rfl, rfl⟩
          go_wp2_with fail
          have tok47 : True := trivial
          have tok51 : True := trivial
          have tok56 : True := trivial
          obtain ⟨D, hD⟩ : ∃ D, wr.drew = D := ⟨_, rfl⟩
          have hDs : D.heap.size = wr.heap.size := by rw [← hD]; rfl
          have HBD : Hid (Below wr.heap.size wr D) := Lib.hid (by rw [← hD]; exact (Below.refl _ _).drew)
          have hwsD : w.heap.size ≤ D.heap.size := by omega
          have c0 : D.cell? (ad.add (k * 2)) = some (.string a) := by rw [← hD]; exact c0
          have c1 : D.cell? ⟨(ad.add (k * 2)).block, (ad.add (k * 2)).off + 1, none⟩ = some (.string b) := by rw [← hD]; exact c1
          have hal : (ad.add (k * 2)).block < D.heap.size := by omega
          have e0 : (D.alloc (.cells #[] 23)).cell? (ad.add (k * 2)) = some (.string a) := by rw [World.cell?_alloc_lt _ _ _ hal]; exact c0
          have e1 : (D.alloc (.cells #[] 23)).cell? ⟨(ad.add (k * 2)).block, (ad.add (k * 2)).off + 1, none⟩ = some (.string b) := by rw [World.cell?_alloc_lt _ _ ⟨(ad.add (k * 2)).block, (ad.add (k * 2)).off + 1, none⟩ hal]; exact c1
          have HA1 := Lib.hid ((World.ownsRow_made (base := wr.heap.size) (e := 23) (size := 2) D #[] 0 (by omega) (by unfold maxLen; omega) rfl).alloc (.cells #[.string a, .string b] 23))
          have HA2 : Hid (Sees ((D.alloc (.cells #[] 23)).alloc (.cells #[.string a, .string b] 23)) (D.heap.size + 2) 2 (some ⟨D.heap.size + 1, 0, none⟩) 1 (lbls [(a, b)])) := Lib.hid (by
            have h := (Blk.mk (heap_alloc_new (D.alloc (.cells #[] 23)) (.cells #[.string a, .string b] 23)) : Blk _ _ 23 [.string a, .string b]).sees (size := 2) (n := 1) (xs := lbls [(a, b)]) rfl (List.prefix_refl _)
            simpa using h)
          have HB1 : Hid (((D.alloc (.cells #[.string a, .string b] 23)).alloc (.cells #[] 23)).ownsRow wr.heap.size 23 2 (.slice (some ⟨D.heap.size + 1, 0, none⟩) 0 0) 0 []) := Lib.hid (by
            have h := World.ownsRow_made (base := wr.heap.size) (e := 23) (size := 2) (D.alloc (.cells #[.string a, .string b] 23)) #[] 0 (by simp; omega) (by unfold maxLen; omega) rfl
            rwa [show (D.alloc (.cells #[.string a, .string b] 23)).heap.size = D.heap.size + 1 by simp] at h)
          have HB2 : Hid (Sees ((D.alloc (.cells #[.string a, .string b] 23)).alloc (.cells #[] 23)) (D.heap.size + 2) 2 (some ⟨D.heap.size, 0, none⟩) 1 (lbls [(a, b)])) := Lib.hid (by
            have h := ((Blk.mk (heap_alloc_new D (.cells #[.string a, .string b] 23)) : Blk _ _ 23 [.string a, .string b]).alloc (.cells #[] 23)).sees (size := 2) (n := 1) (xs := lbls [(a, b)]) rfl (List.prefix_refl _)
            simpa using h)
          have HBA := Lib.hid (((HBD.out.alloc (by omega) (.cells #[] 23)).alloc (by simp; omega) (.cells #[.string a, .string b] 23)))
          have HBB := Lib.hid (((HBD.out.alloc (by omega) (.cells #[.string a, .string b] 23)).alloc (by simp; omega) (.cells #[] 23)))
          have HSK := Lib.hid (show Sees wr wr.heap.size 2 (some ad) k (lbls (own.take k)) by have h := HS.out.take (k := k) (by omega); rwa [lbls_take] at h)
          obtain ⟨Y, hY⟩ : ∃ Y, (if cx = k + 1 then some ad else some (ad.add ((k + 1) * 2))) = Y := ⟨_, rfl⟩
          have HSD := Lib.hid (show Sees wr wr.heap.size 2 Y (own.length - (k + 1)) (lbls (own.drop (k + 1))) by
            have h := HS.out.drop (k := k + 1) (cap := cx) (by omega) hcx1
            rw [lbls_drop] at h
            simp only [Option.map_some] at h
            rwa [hY] at h)
          have b8 : IntKind.i64.wrap ((k : Int) + 1) = (k : Int) + 1 := IntWalk.i64_in _ (by omega)
          have b9 : 0 ≤ (k : Int) + 1 := by omega
          have b10 : (k : Int) + 1 ≤ own.length := by omega
          have b11 : (k : Int) ≤ cx := by omega
          have b12 : ((k : Int) + 1).toNat = k + 1 := by omega
          have b13 : (k : Int) < own.length := by omega
          have hle : wr.heap.size ≤ D.heap.size := by omega
          clear HS HW
          go_region_law (first
            | (have tk := tok47; refine step_append_own rfl (.tmp 41) (.tmp 46) 24 rfl wr.heap.size 23 i0 (.agg #[.string ⟨#[]⟩, .string ⟨#[]⟩]) 2 32 Try.underlying24 hi0 hz0 hz1 hz2 rfl (by decide) (.slice (some ⟨D.heap.size, 0, none⟩) 0 0) 0 [] (by simp [Act.eval]) HA1.out _ (some ⟨D.heap.size + 1, 0, none⟩) 1 1 (lbls [(a, b)]) (by simp [Act.eval]) HA2.out (lbls_one _) (by unfold maxLen; omega) (by omega) (by simp; omega) ?_; intro A7 c7 w7 hown7 hgr7; have HO7 := Lib.hid hown7; have HB7 := Lib.hid (HBA.out.grown hgr7 (by simp; omega) (by simp [Value.ownBlock]; omega)); clear tok47 tk hown7 hgr7)
            | (have tk := tok47; refine step_append_own rfl (.tmp 41) (.tmp 46) 24 rfl wr.heap.size 23 i0 (.agg #[.string ⟨#[]⟩, .string ⟨#[]⟩]) 2 32 Try.underlying24 hi0 hz0 hz1 hz2 rfl (by decide) (.slice (some ⟨D.heap.size + 1, 0, none⟩) 0 0) 0 [] (by simp [Act.eval]) HB1.out _ (some ⟨D.heap.size, 0, none⟩) 1 1 (lbls [(a, b)]) (by simp [Act.eval]) HB2.out (lbls_one _) (by unfold maxLen; omega) (by omega) (by simp; omega) ?_; intro A7 c7 w7 hown7 hgr7; have HO7 := Lib.hid hown7; have HB7 := Lib.hid (HBB.out.grown hgr7 (by simp; omega) (by simp [Value.ownBlock]; omega)); clear tok47 tk hown7 hgr7)
            | (have tk := tok51; refine step_append_own rfl (.tmp 47) (.tmp 50) 24 rfl wr.heap.size 23 i0 (.agg #[.string ⟨#[]⟩, .string ⟨#[]⟩]) 2 32 Try.underlying24 hi0 hz0 hz1 hz2 rfl (by decide) (.slice A7 1 c7) 1 (lbls [(a, b)]) (by simp [Act.eval]) HO7.out _ (some ad) k cx (lbls (own.take k)) (by simp [Act.eval]) (HSK.out.below HB7.out) (lbls_one _) (by unfold maxLen; omega) (by omega) HB7.out.size ?_; intro A8 c8 w8 hown8 hgr8; have HO8 := Lib.hid hown8; have HB8 := Lib.hid (HB7.out.grown hgr8 HB7.out.size (fun k hk => (HO7.out.lt k hk).1)); clear tok51 tk hown8 hgr8)
            | (have tk := tok56; refine step_append_own rfl (.tmp 51) (.tmp 55) 24 rfl wr.heap.size 23 i0 (.agg #[.string ⟨#[]⟩, .string ⟨#[]⟩]) 2 32 Try.underlying24 hi0 hz0 hz1 hz2 rfl (by decide) (.slice A8 (1 + k) c8) (1 + k) (lbls [(a, b)] ++ lbls (own.take k)) (by simp [Act.eval]) HO8.out _ Y (own.length - (k + 1)) (cx - (k + 1)) (lbls (own.drop (k + 1))) (by simp [Act.eval]) (HSD.out.below HB8.out) (lbls_one _) (by unfold maxLen; omega) (by omega) HB8.out.size ?_; intro A9 c9 w9 hown9 hgr9; have HO9 := Lib.hid hown9; have HB9 := Lib.hid (HB8.out.grown hgr9 HB8.out.size (fun k hk => (HO8.out.lt k hk).1)); clear tok56 tk hown9 hgr9)
            | fail)
          all_goals
            clear HA1 HA2 HB1 HB2 HBA HBB HSK HSD HB7 HB8 HO7 HO8 e0 e1 c0 c1 dO
            have HM9 := Lib.hid (HM.out.below HB9.out)
            have HV9 : Hid (HasL w9 (.slice A9 (1 + k + (own.length - (k + 1))) c9) ([(a, b)] ++ own.take k ++ own.drop (k + 1))) := Lib.hid (by
              have h := hasL_own (l := [(a, b)] ++ own.take k ++ own.drop (k + 1)) (by rw [lbls_append, lbls_append]; exact HO9.out)
              rwa [show ([(a, b)] ++ own.take k ++ own.drop (k + 1)).length = 1 + k + (own.length - (k + 1)) by simp only [List.length_append, List.length_cons, List.length_nil, List.length_take, List.length_drop]; omega] at h)
            clear HO9 HB9
            go_wp2_with fail
            go_roundg g
            case measure => omega
            case rel =>
              have hln : ([(a, b)] ++ own.take k ++ own.drop (k + 1)).length = 1 + k + (own.length - (k + 1)) := by simp only [List.length_append, List.length_cons, List.length_nil, List.length_take, List.length_drop]; omega
              refine ⟨i + 1, [(a, b)] ++ own.take k ++ own.drop (k + 1), A9, c9, by omega, by go_num, by rw [hln], HTP.out.trans HP.out, ?_⟩
              rw [hln]
              exact (HM9.out.add HV9.out).less (fun p hp => by
                simp only [List.mem_cons, List.not_mem_nil, or_false] at hp ⊢
                rcases hp with rfl | rfl
                · exact .inl rfl
                · exact .inr (.inr rfl))
        · have z1 : ¬ (1 : Int) < own.length := by omega
          go_wp2_with fail
          go_meet
          exact ⟨own, X, cx, rfl, HP.out, HM.out⟩
  case rest =>
    obtain ⟨own, X, cx, rfl, hperm, hmg⟩ := hcut
    have HP := Lib.hid hperm; have HM := Lib.hid hmg
    have hol : own.length = la.length := hperm.length_eq
    have hol3 : own.length ≤ 3 := by omega
    have HUO := Lib.hid (unlike_perm (rise_unlike (rightS_rising HRA.out)) hperm)
    have HKO : Hid (∀ x ∈ own, lblOk x = true) := Lib.hid (fun x hx => rightS_ok HRA.out x (hperm.mem_iff.1 hx))
    have HOL := Lib.hid hol
    clear hperm hmg HM2 HOR HZO hol
    go_wp2_with fail
    go_loopg [59, 11] own.length (fun g x59 x11 wr => ∃ (k : Nat) (m : List Lbl) (Y : Option Addr) (cy : Nat), k + g = own.length ∧ x59 = .int .i64 k ∧ x11 = .slice Y m.length cy ∧ Rise m ∧ m.Perm (own.take k) ∧ MgAt w [(.slice Y m.length cy, m), (.slice X own.length cx, own), (.slice A la.length cA, la)] kb bb wr)
    case atStart => exact ⟨0, [], none, 0, by omega, rfl, rfl, List.Pairwise.nil, List.Perm.refl _, HM.out.add (hasL_nil _)⟩
    case round =>
      obtain ⟨k, m, Y, cy, hkg, rfl, rfl, hrise, hpm, hmg⟩ := hrel
      have HRI := Lib.hid hrise; have HPM := Lib.hid hpm; have HMR := Lib.hid hmg
      have hml : m.length ≤ 3 := by have := hpm.length_eq; rw [List.length_take] at this; omega
      clear hrise hpm hmg HM
      cases gk with
      | succ g =>
        have hk : k < own.length := by omega
        obtain ⟨hS, _, hcx1, hcx2⟩ := (HMR.out.get (v := .slice X own.length cx) (l := own) (by simp)).slice
        obtain ⟨ad, hkl, rfl, c0, c1⟩ := hS.lbl hk
        have hal := World.block_lt_of_cell? wr _ c0
        obtain ⟨m', hm1, hm2, hm3⟩ := merge_step HUO.out HKO.out hk HRI.out HPM.out
        have HN2 := Lib.hid hm2; have HN3 := Lib.hid hm3
        clear hS hm2 hm3
        generalize own[k] = p at *
        obtain ⟨a, b⟩ := p
        simp only at c0 c1 hm1
        have HN1 := Lib.hid hm1
        clear hm1
        go_wp2_with fail
        clear c0 c1 hal
        (with_reducible refine (with_h ((HMR.out.alloc _).get (v := .slice Y m.length cy) (l := m) (by simp)) (by omega) a b).mono ?_); rintro e w3 hans
        rw [HN1.out] at hans
        obtain ⟨A3, c3, rfl, hl3, hb⟩ := hans
        have HM3 := Lib.hid (((HMR.out.alloc (.cells #[.string a, .string b] 23)).below hb).add hl3)
        clear hl3 hb HMR
        go_wp2_with fail
        go_roundg g
        case measure => omega
        case rel => exact ⟨k + 1, m', A3, c3, by omega, by go_num, rfl, HN2.out, HN3.out, HM3.out.less (fun p hp => by
            simp only [List.mem_cons, List.not_mem_nil, or_false] at hp ⊢
            rcases hp with rfl | rfl | rfl
            · exact .inl rfl
            · exact .inr (.inr (.inl rfl))
            · exact .inr (.inr (.inr rfl)))⟩
      | zero =>
        obtain rfl : k = own.length := by omega
        obtain rfl : la = m := (rise_perm HRI.out (rightS_rising HRA.out) ((HPM.out.trans (List.Perm.of_eq List.take_length)).trans HP.out)).symm
        clear HRI HPM hml
        go_wp2_with fail
        (with_reducible refine (same_h (HMR.out.get (v := .slice Y la.length cy) (l := la) (by simp)) (HMR.out.get (v := .slice A la.length cA) (l := la) (by simp)) (by omega) (by omega)).mono ?_); rintro e w5 ⟨rfl, m1, rfl⟩
        rw [decide_eq_true (show la = la from rfl)]
        have HM5 := Lib.hid (HMR.out.drewN m1)
        clear HMR
        generalize wr.drewN m1 = w5 at *
        go_wp2_with fail
        go_loopg [76, 11] own.length (fun g x76 x11 wr => ∃ (k : Nat) (K : List Lbl) (Z : Option Addr) (cz : Nat), k + g = own.length ∧ x76 = .int .i64 k ∧ x11 = .slice Z K.length cz ∧ la.filter (fun x => !hasS (namesL own k) x.1) = K ∧ MgAt w [(.slice Z K.length cz, K), (.slice X own.length cx, own), (.slice A la.length cA, la)] kb bb wr)
        case atStart => exact ⟨0, la, Y, cy, by omega, rfl, rfl, drop_start la own, HM5.out⟩
        case round =>
          obtain ⟨k, K, Z, cz, hkg, rfl, rfl, hK, hmg⟩ := hrel
          have HK := Lib.hid hK; have HMR := Lib.hid hmg
          have hKl : K.length ≤ 3 := by rw [← hK]; exact Nat.le_trans (List.length_filter_le _ _) hla
          clear hK hmg HM5
          cases gk with
          | succ g =>
            have hk : k < own.length := by omega
            obtain ⟨hS, _, hcx1, hcx2⟩ := (HMR.out.get (v := .slice X own.length cx) (l := own) (by simp)).slice
            obtain ⟨ad, hkl, rfl, c0, c1⟩ := hS.lbl hk
            have hal := World.block_lt_of_cell? _ _ c0
            have hst := drop_step la own k hk
            rw [HK.out] at hst
            clear hS
            generalize own[k] = p at *
            obtain ⟨a, b⟩ := p
            simp only at c0 c1 hst
            have HST := Lib.hid hst
            clear hst
            go_wp2_with fail
            clear c0 c1 hal
            (with_reducible refine (drop_h (((HMR.out.alloc _).alloc _).get (v := .slice Z K.length cz) (l := K) (by simp)) (by omega) (one_name2 _ _ _) (Nat.le_refl _) (by omega)).mono ?_); rintro e w3 hans
            rw [HST.out] at hans
            obtain ⟨A3, c3, rfl, hl3, hb⟩ := hans
            have HM3 := Lib.hid ((((HMR.out.alloc (.cells #[.string a, .string b] 23)).alloc (.cells #[.string a] 9)).below hb).add hl3)
            clear hl3 hb HMR
            go_wp2_with fail
            go_roundg g
            case measure => omega
            case rel => exact ⟨k + 1, _, A3, c3, by omega, by go_num, rfl, rfl, HM3.out.less (fun p hp => by
                simp only [List.mem_cons, List.not_mem_nil, or_false] at hp ⊢
                rcases hp with rfl | rfl | rfl
                · exact .inl rfl
                · exact .inr (.inr (.inl rfl))
                · exact .inr (.inr (.inr rfl)))⟩
          | zero =>
            obtain rfl : k = own.length := by omega
            obtain rfl : K = [] := by rw [← HK.out]; exact drop_end HP.out
            clear HK hKl
            have d0 := HMR.out.box.cell 0
            have d1 := HMR.out.box.cell 1
            simp only [List.getElem?_cons_zero, List.getElem?_cons_succ] at d0 d1
            go_wp2_with fail
            clear d0 d1
            (with_reducible refine (HKB.out _ HMR.out.ok HMR.out.bel.size).mono ?_); rintro e w7 hl7
            obtain ⟨B7, c7, rfl, hl, hb⟩ := ansL_of hl7
            have HM7 := Lib.hid ((HMR.out.below hb).add hl)
            clear hl7 hl hb HMR HKB
            obtain ⟨ca, cb, hc1, hc2, hc3⟩ := cmp_three HRA.out HRB.out
            have HC1 := Lib.hid hc1; have HC2 := Lib.hid hc2
            have HNM := Lib.hid (keep_names HNA.out)
            clear hc1 hc2 HUO HKO HRA HRB HP HOL HNA
            rcases hc3 with ⟨hd, rfl, rfl⟩ | ⟨hd, rfl, rfl⟩ | ⟨hd, rfl, rfl⟩
            all_goals
              go_wp2_with fail
              (with_reducible refine (compare_any A B7 la.length cA lb.length c7 _ la lb _ (HM7.out.get (v := .slice A la.length cA) (l := la) (by simp)).sees (HM7.out.get (v := .slice B7 lb.length c7) (l := lb) (by simp)).sees (Nat.le_refl _) (by omega) (by omega)).mono ?_); rintro e w8 ⟨rfl, hb⟩
              rw [HC1.out]
              have HM8 := Lib.hid (HM7.out.below hb)
              clear hb HM7
              go_wp2_with fail
              (with_reducible refine (compare_any B7 A lb.length c7 la.length cA _ lb la _ (HM8.out.get (v := .slice B7 lb.length c7) (l := lb) (by simp)).sees (HM8.out.get (v := .slice A la.length cA) (l := la) (by simp)).sees (Nat.le_refl _) (by omega) (by omega)).mono ?_); rintro e w9 ⟨rfl, hb⟩
              rw [HC2.out]
              have HM9 := Lib.hid (HM8.out.below hb)
              clear hb HM8
              go_wp2_with fail
              (with_reducible refine (compare_any A B7 la.length cA lb.length c7 _ la lb _ (HM9.out.get (v := .slice A la.length cA) (l := la) (by simp)).sees (HM9.out.get (v := .slice B7 lb.length c7) (l := lb) (by simp)).sees (Nat.le_refl _) (by omega) (by omega)).mono ?_); rintro e w10 ⟨rfl, hb⟩
              rw [HC1.out]
              have HM10 := Lib.hid (HM9.out.below hb)
              clear hb HM9
              go_wp2_with fail
              (with_reducible refine (same_h (HM10.out.get (v := .slice A la.length cA) (l := la) (by simp)) (HM10.out.get (v := .slice B7 lb.length c7) (l := lb) (by simp)) (by omega) (by omega)).mono ?_); rintro e w11 ⟨rfl, m2, rfl⟩
              rw [hd]
              have HM11 := Lib.hid (HM10.out.drewN m2)
              clear HM10
              generalize w10.drewN m2 = w11 at *
              go_wp2_with fail
              (with_reducible refine (names_any _).mono ?_); rintro e w12 ⟨rfl, rfl⟩
              go_wp2_with fail
              (with_reducible refine (keep_h ((HM11.out.alloc _).get (v := .slice A la.length cA) (l := la) (by simp)) (by omega) (names_sees _) (Nat.le_refl _) (by omega)).mono ?_); rintro e w13 hans
              rw [HNM.out] at hans
              obtain ⟨A13, c13, rfl, hl, hb⟩ := hans
              have HM13 := Lib.hid (((HM11.out.alloc _).below hb).add hl)
              clear hl hb HM11
              go_wp2_with fail
              (with_reducible refine (same_h (HM13.out.get (v := .slice A13 la.length c13) (l := la) (by simp)) (HM13.out.get (v := .slice A la.length cA) (l := la) (by simp)) (by omega) (by omega)).mono ?_); rintro e w14 ⟨rfl, m3, rfl⟩
              rw [decide_eq_true (show la = la from rfl)]
              have HM14 := Lib.hid (HM13.out.drewN m3)
              clear HM13
              generalize w13.drewN m3 = w14 at *
              go_wp2_with fail
              (with_reducible refine (lset_runs _).mono ?_); rintro e w15 ⟨rfl, hb⟩
              have HM15 := Lib.hid (HM14.out.below hb)
              clear hb HM14
              go_wp2_with fail
              go_ret
              exact ⟨rfl, HM15.out.bel⟩
end Go.Proofs.Ytkebmdcljeaacaa
