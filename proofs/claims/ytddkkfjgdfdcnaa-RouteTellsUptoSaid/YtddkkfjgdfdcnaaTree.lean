/- klaxonkeep.grow. -/
import Derived.Test.YtddkkfjgdfdcnaaTreeMath
import Derived.Test.YtddkkfjgdfdcnaaRoute3
import Derived.Deep.RegionLaw
import Derived.Test.YtddkkfjgdfdcnaaBase
namespace Go.Proofs.Ytddkkfjgdfdcnaa
open Go.ChangeShapes Go.WideShapes Go.ChangeAt Go.RowKit
set_option linter.unusedVariables false
set_option linter.unusedSimpArgs false
set_option maxRecDepth 100000
theorem Try.infoRt : (Try.prog.info? 28).map (fun i => (i.zero, i.size, i.bytes)) = some (some (.agg #[.slice none 0 0, .string ⟨#[]⟩, .bool false, .slice none 0 0]), 4, 72) := by kernel_rfl
theorem step_append_at3 {P : Program} {w : World} {ops : Array Oper} {o : Oper} {a : Act} {K : Act → World → Prop} {Q : Exit → Act → World → Prop} {E : Prop} (hgd : o.guard = none) (s x : Operand) (t : TypeId)
    (ho : o.op = .call { callee := .builtin .append, args := #[s, x], argTypes := #[t, t] })
    (base : Nat) (e : TypeId) (i : TypeInfo) (z : Value) (size bytes : Nat) (ht : P.underlying t = some (.slice e)) (hi : P.info? e = some i) (hz : i.zero = some z)
    (hsize : i.size = size) (hby : i.bytes = bytes) (hzs : z.cells.size = size) (hsz : 0 < size)
    (v : Value) (n : Nat) (xs : List Value) (hv : a.eval s = v) (hown : w.ownsRow base e size v n xs)
    (B : Nat) (A : Option Addr) (m c : Nat) (news : List Value) (hx : a.eval x = .slice A m c) (hs : Sees w B size A m news) (h1 : ∀ u ∈ news, u.oneCell' = true)
    (h63 : n + m ≤ maxLen) (hbytes : (n + m) * bytes ≤ 140737488355328) (hbase : base ≤ w.heap.size)
    (h : ∀ v' w', w'.ownsRow base e size v' (n + m) (xs ++ news) → w.grownBy w' v.ownBlock → Where w v v' → K (a.put o.dst v') w') :
    if Region.wanted o (yielded ops a.tmps) = true then Oper.wp P o a w K Q else E := by
  have hw : Region.wanted o (yielded ops a.tmps) = true := by simp [Region.wanted, hgd]
  rw [if_pos hw]
  obtain ⟨v', w', hr, h2, h3⟩ := append_run (P := P) w base t o.type e i z size bytes ht hi hz hsize hby hzs hsz v n xs hown B A m c news hs h1 h63 hbytes hbase
  have h4 := append_where (P := P) w base t o.type e i z size bytes ht hi hz hsize hby hzs hsz v n xs hown B A m c news hs h1 h63 hbytes v' w' hr
  unfold Oper.wp execOp
  simp only [ho, resolve, invoke, builtin, Sem.run_bind, Sem.run_pure, Result.andThen_ok, List.map_toArray, List.map_cons, List.map_nil, hv, hx, hr]
  exact h v' w' h2 h3 h4
/-- A fact that stays whatever becomes of the blocks of S. -/
def FarS (S : Nat → Prop) (P : World → Prop) (w : World) : Prop := ∀ w', w.heap.size ≤ w'.heap.size → (∀ b, b < w.heap.size → ¬ S b → w'.heap[b]? = w.heap[b]?) → P w'
theorem FarS.now {S : Nat → Prop} {P : World → Prop} {w : World} (h : FarS S P w) : P w := h w (Nat.le_refl _) (fun _ _ _ => rfl)
theorem FarS.next {S S' : Nat → Prop} {P : World → Prop} {w w' : World} (h : FarS S P w) (h1 : w.heap.size ≤ w'.heap.size) (h2 : ∀ b, b < w.heap.size → ¬ S b → w'.heap[b]? = w.heap[b]?) (h3 : ∀ b, b < w.heap.size → S' b → S b) : FarS S' P w' :=
  fun V hs hk => h V (Nat.le_trans h1 hs) fun b hb hn => (hk b (by omega) (fun hS => hn (h3 b hb hS))).trans (h2 b hb hn)
theorem FarS.below {S : Nat → Prop} {P : World → Prop} {w w' : World} (h : FarS S P w) (hb : Below w.heap.size w w') : FarS S P w' :=
  h.next hb.size (fun b hl _ => hb.block b hl) (fun _ _ hS => hS)
theorem FarS.mono {S S' : Nat → Prop} {P : World → Prop} {w : World} (h : FarS S P w) (h3 : ∀ b, b < w.heap.size → S' b → S b) : FarS S' P w :=
  h.next (Nat.le_refl _) (fun _ _ _ => rfl) h3
/-- What was there ahead of a bound. -/
theorem HasM.far {w : World} {v : Value} {l : List Mtc} (h : HasM w v l) {V : World} (hb : Below w.heap.size w V) : FarS (fun b => w.heap.size ≤ b) (fun W => HasM W v l) V := fun V' hs hk => by
  obtain ⟨A, c, h1, h2, h3⟩ := h
  refine ⟨A, c, h1, (h2.keep (w' := V') (fun p hp => ?_)).more (Nat.le_trans hb.size hs), h3⟩
  unfold World.cell?
  rw [(hk p.block (Nat.lt_of_lt_of_le hp hb.size) (by omega)).trans (hb.block p.block hp)]
/-- Within grow's loop. -/
structure GrAt (S0 : Nat → Prop) (w0 : World) (b6 bx : Nat) (c0 c1 c2 : Value) (d : Nat) (L : List RT) (X : Option Addr) (cx : Nat) (w : World) : Prop where
  res : Blk w b6 28 [.slice none 0 0, .string ⟨#[]⟩, .bool false, .slice none 0 0]
  box : Blk w bx 28 [c0, c1, c2, .slice X L.length cx]
  row : w.ownsRow (bx + 1) 28 4 (.slice X L.length cx) L.length (quad (L.map RT.cells))
  kids : ∀ q ∈ L, FarS (fun b => S0 b ∧ b ≤ bx ∨ (Value.slice X L.length cx).ownBlock = some b) (okAt d q) w
  bel : Below w0.heap.size w0 w
  lt : w0.heap.size ≤ b6 ∧ b6 < bx
  new : ∀ b, w0.heap.size ≤ b → S0 b
theorem GrAt.below {S0 : Nat → Prop} {w0 : World} {b6 bx : Nat} {c0 c1 c2 : Value} {d : Nat} {L : List RT} {X : Option Addr} {cx : Nat} {w w' : World} (h : GrAt S0 w0 b6 bx c0 c1 c2 d L X cx w) (hb : Below w.heap.size w w') : GrAt S0 w0 b6 bx c0 c1 c2 d L X cx w' :=
  ⟨h.res.below hb h.res.lt, h.box.below hb h.box.lt, own_below h.row hb (Nat.le_refl _), fun q hq => (h.kids q hq).below hb, h.bel.trans (hb.mono h.bel.size), h.lt, h.new⟩
theorem GrAt.bx1 {S0 : Nat → Prop} {w0 : World} {b6 bx : Nat} {c0 c1 c2 : Value} {d : Nat} {L : List RT} {X : Option Addr} {cx : Nat} {w : World} (h : GrAt S0 w0 b6 bx c0 c1 c2 d L X cx w) : bx + 1 ≤ w.heap.size := h.box.lt
theorem quad_one4 (A : Option Addr) (m c : Nat) (nm : ByteArray) {g : Bool} {A2 : Option Addr} {m2 c2 : Nat} : ∀ u ∈ [Value.slice A m c, .string nm, .bool g, .slice A2 m2 c2], u.oneCell' = true := by simp [Value.oneCell']
theorem GrAt.more {S0 : Nat → Prop} {w0 : World} {b6 bx : Nat} {c0 c1 c2 : Value} {d : Nat} {L : List RT} {X X' : Option Addr} {cx c' : Nat} {w w7 : World} {q : RT} (h : GrAt S0 w0 b6 bx c0 c1 c2 d L X cx w)
    (hq : FarS (fun b => S0 b ∧ b ≤ bx ∨ (Value.slice X L.length cx).ownBlock = some b) (okAt d q) w)
    (hown : w7.ownsRow (bx + 1) 28 4 (.slice X' (L.length + 1) c') (L.length + 1) (quad (L.map RT.cells) ++ [q.cells.1, q.cells.2.1, q.cells.2.2.1, q.cells.2.2.2]))
    (hgr : w.grownBy w7 (Value.slice X L.length cx).ownBlock) (hwh : Where w (.slice X L.length cx) (.slice X' (L.length + 1) c')) :
    GrAt S0 w0 b6 bx c0 c1 c2 d (L ++ [q]) X' c' (w7.setCell ⟨bx, 3, none⟩ (.slice X' (L.length + 1) c')) := by
  have hX : ∀ g, (Value.slice X L.length cx).ownBlock = some g → bx + 1 ≤ g := fun g hg => (h.row.lt g hg).1
  have hlen : (L ++ [q]).length = L.length + 1 := by simp
  have hkid : ∀ x, FarS (fun b => S0 b ∧ b ≤ bx ∨ (Value.slice X L.length cx).ownBlock = some b) (okAt d x) w → FarS (fun b => S0 b ∧ b ≤ bx ∨ (Value.slice X' (L ++ [q]).length c').ownBlock = some b) (okAt d x) (w7.setCell ⟨bx, 3, none⟩ (.slice X' (L.length + 1) c')) := fun x hx => by
    refine hx.next (Nat.le_trans hgr.size (by simp [World.setCell])) (fun b hb hn => ?_) (fun b hb hS => ?_)
    · rw [Below.heap_setCell w7 ⟨bx, 3, none⟩ (.slice X' (L.length + 1) c') b (fun e => hn (.inl ⟨h.new b (by have := h.lt; have e2 : b = bx := e; omega), by have e2 : b = bx := e; omega⟩))]
      exact hgr.block b hb (fun e => hn (.inr e.symm))
    · rw [hlen] at hS
      rcases hS with hS | hS
      · exact .inl hS
      · rcases hwh with hw | hw
        · exact .inr (hw.symm.trans hS)
        · exact absurd (hw b hS) (by omega)
  refine ⟨(h.res.grown hgr (fun e => by have := hX b6 e.symm; have := h.lt; omega)).far (by show b6 ≠ bx; have := h.lt; omega) _, ?_, ?_, fun x hx => ?_, (h.bel.grown hgr h.bel.size (fun g hg => by have h1 := hX g hg; have := h.lt; omega)).setCell (p := ⟨bx, 3, none⟩) (by show w0.heap.size ≤ bx; have := h.lt; omega) _, h.lt, h.new⟩
  · have hb := (h.box.grown hgr (fun e => by have := hX bx e.symm; omega)).set 3 (.slice X' (L.length + 1) c')
    rw [hlen]; exact hb
  · rw [hlen, List.map_append, quad_append]
    exact own_far hown (p := ⟨bx, 3, none⟩) (Nat.lt_succ_self bx) _
  · rcases List.mem_append.1 hx with hx | hx
    · exact hkid x (h.kids x hx)
    · rw [List.mem_singleton] at hx; subst hx; exact hkid _ hq
/-- What the loop ends with is a tree. -/
theorem GrAt.tree {S0 : Nat → Prop} {w0 : World} {b6 bx : Nat} {c0 : Value} {nm : ByteArray} {gs : Bool} {d : Nat} {L : List RT} {X : Option Addr} {cx : Nat} {w w' : World} {ms : List Mtc} (h : GrAt S0 w0 b6 bx c0 (.string nm) (.bool gs) d L X cx w)
    (hm : FarS S0 (fun W => HasM W c0 ms) w) (hs : w.heap.size ≤ w'.heap.size) (hw : ∀ b, b < w.heap.size → b ≠ b6 → w'.heap[b]? = w.heap[b]?) :
    FarS (fun b => S0 b ∧ b < w0.heap.size) (okAt (d + 1) (.mk c0 ms nm gs (.slice X L.length cx) L)) w' := fun V hVs hVk => by
  have hlt := h.lt
  have hX : ∀ g, (Value.slice X L.length cx).ownBlock = some g → bx + 1 ≤ g ∧ g < w.heap.size := fun g hg => h.row.lt g hg
  have hk : ∀ b, b < w.heap.size → b ≠ b6 → ¬ (S0 b ∧ b < w0.heap.size) → V.heap[b]? = w.heap[b]? := fun b hb h6 hn => (hVk b (by omega) hn).trans (hw b hb h6)
  refine ⟨hm V (by omega) (fun b hb hn => hk b hb (fun e => hn (h.new b (by omega))) (fun e => hn e.1)), ?_, fun x hx => (h.kids x hx) V (by omega) (fun b hb hn => hk b hb (fun e => hn (.inl ⟨h.new b (by omega), by omega⟩)) (fun e => hn (.inl ⟨e.1, by omega⟩)))⟩
  obtain ⟨X', cx', h1, h2, h3⟩ := own_slice h.row
  injection h1 with h1 _ h4; subst h1; subst h4
  refine ⟨X, cx, rfl, ?_, h2, h3⟩
  have hs2 := Sees.of_own h.row
  refine ⟨hs2.len, fun hp => ?_⟩
  obtain ⟨ad, e, hl, hc⟩ := hs2.at_ hp
  refine ⟨ad, e, by omega, fun j u hj => ?_⟩
  have hcc := hc j u hj
  have hbl := h.row.lt ad.block (by subst e; rfl)
  have hh := hk ad.block hbl.2 (by omega) (fun e => by have := e.2; omega)
  unfold World.cell? at hcc ⊢
  rw [add_block] at hcc ⊢
  rw [hh]; exact hcc
set_option maxHeartbeats 8000000 in
theorem grow_any (ns : List RT) (us : List Int) (An Au : Option Addr) (n cn cu : Nat) (S0 : Nat → Prop) (hnl : ns.length = n) (hul : us.length = n) (hn : n ≤ 1000) (hkv : ∀ k ∈ ns, k.kv = .slice none 0 0) :
    ∀ (d p : Nat) (w : World), depU us d p → p < n → HasK w (.slice An n cn) ns → Sees w w.heap.size 1 Au n (ints us) → (∀ k ∈ ns, FarS S0 (fun W => HasM W k.mv k.ms) w) → (∀ b, w.heap.size ≤ b → S0 b) →
    Calls Try.prog 22 #[.slice An n cn, .slice Au n cu, .int .i64 p] w fun e w' => ∃ r, e = .returned r.val ∧ GrT ns us d p r ∧ FarS (fun b => S0 b ∧ b < w.heap.size) (okAt d r) w' ∧ Below w.heap.size w w'
  | 0, _, _, h, _, _, _, _, _ => h.elim
  | d + 1, p, w, hd, hp, hK, hU, hM, hB => by
    obtain ⟨i0, hi0, hz0, hz1, hz2⟩ := info_parts Try.infoRt
    obtain ⟨ad, hpl, hA, e0, e1, e2, e3⟩ := hK.get hp
    have hal := World.block_lt_of_cell? w _ e0
    have HM := Lib.hid hM
    have HT := Lib.hid ((((Kept.start w).add hK.stay).add (hU.stays (Nat.le_refl _))))
    rw [hkv _ (List.getElem_mem hpl)] at e3
    have HMP := Lib.hid (hM ns[p] (List.getElem_mem hpl))
    have HGT : Hid (∀ (L : List RT) (v : Value), All2 (GrT ns us d) (kidsU us us.length p) L → GrT ns us (d + 1) p (.mk ns[p].mv ns[p].ms ns[p].nm ns[p].goes v L)) := Lib.hid (fun L v h => ⟨hpl, rfl, rfl, rfl, rfl, h⟩)
    have HIH := Lib.hid (fun (k : Nat) (V : World) (hk : k ∈ kidsU us us.length p) h1 h2 h3 h4 h5 => grow_any ns us An Au n cn cu S0 hnl hul hn hkv d k V (hd k hk) h1 h2 h3 h4 h5)
    obtain ⟨A5, c5, hv5, _⟩ := (hM ns[p] (List.getElem_mem hpl)).now.form2
    rw [hv5] at e0
    have HUL := Lib.hid hul
    clear hM hK hU hd hkv hnl hul
    obtain ⟨b6, hb6⟩ : ∃ b, w.heap.size = b := ⟨_, rfl⟩
    generalize ns[p].ms.length = lm at *
    generalize hnm : ns[p].nm = nm at *
    generalize hgs : ns[p].goes = gs at *
    generalize hmv : ns[p].mv = mv at *
    subst hv5
    subst hA
    clear hnm hgs hmv
    have HB0 := Lib.hid hB
    have HB6 := Lib.hid hb6
    clear hB hb6
    go_enter Try.func22, Try.ntmps22
    obtain ⟨bx, hbx⟩ : ∃ b, b6 + 1 = b := ⟨_, rfl⟩
    have HG0 := Lib.hid (show GrAt S0 w b6 bx (.slice A5 lm c5) (.string nm) (.bool gs) d [] none 0 ((w.alloc (.cells #[.slice none 0 0, .string ⟨#[]⟩, .bool false, .slice none 0 0] 28)).alloc (.cells #[.slice A5 lm c5, .string nm, .bool gs, .slice none 0 0] 28)) by
      have h6 := HB6.out
      subst h6; subst hbx
      refine ⟨((Blk.mk (heap_alloc_new w _) : Blk _ w.heap.size 28 [.slice none 0 0, .string ⟨#[]⟩, .bool false, .slice none 0 0]).alloc _), ?_, by simpa [quad] using World.ownsRow_nil _ _ 28 4, (fun q hq => absurd hq List.not_mem_nil), ((Below.refl _ w).alloc (Nat.le_refl _) _).alloc (by simp) _, ⟨Nat.le_refl _, Nat.lt_succ_self _⟩, HB0.out⟩
      have h := heap_alloc_new (w.alloc (.cells #[.slice none 0 0, .string ⟨#[]⟩, .bool false, .slice none 0 0] 28)) (.cells #[.slice A5 lm c5, .string nm, .bool gs, .slice none 0 0] 28)
      rw [show (w.alloc (.cells #[.slice none 0 0, .string ⟨#[]⟩, .bool false, .slice none 0 0] 28)).heap.size = w.heap.size + 1 by simp] at h
      exact Blk.mk h)
    have HBX := Lib.hid hbx
    clear hbx
    go_upto_block 0 with fail
    rw [HB6.out, HBX.out]
    generalize (w.alloc (.cells #[.slice none 0 0, .string ⟨#[]⟩, .bool false, .slice none 0 0] 28)).alloc (.cells #[.slice A5 lm c5, .string nm, .bool gs, .slice none 0 0] 28) = W1 at *
    clear e0 e1 e2 e3
    go_cut [15] from 15 to 33 (fun x15 wx => ∃ (X : Option Addr) (cx : Nat) (L : List RT), GrAt S0 w b6 bx (.slice A5 lm c5) (.string nm) (.bool gs) d L X cx wx ∧ All2 (GrT ns us d) (kidsU us us.length p) L)
    case first =>
      go_wp2_with fail
      go_loopg [15] n (fun g x15 wr => ∃ (k : Nat) (X : Option Addr) (cx : Nat) (L : List RT), k + g = n ∧ x15 = .int .i64 k ∧ GrAt S0 w b6 bx (.slice A5 lm c5) (.string nm) (.bool gs) d L X cx wr ∧ All2 (GrT ns us d) (kidsU us k p) L ∧ L.length ≤ k)
      case atStart => exact ⟨0, none, 0, [], by omega, rfl, HG0.out, .nil, Nat.le_refl _⟩
      case round =>
        obtain ⟨k, X, cx, L, hkg, rfl, hat, h2, hLk⟩ := hrel
        have HG := Lib.hid hat; have H2 := Lib.hid h2
        clear hat h2 HG0
        cases gk with
        | zero =>
          obtain rfl : k = n := by omega
          have HE := Lib.hid (show All2 (GrT ns us d) (kidsU us us.length p) L by rw [HUL.out]; exact H2.out)
          go_wp2_with fail
          go_meet
          exact ⟨X, cx, L, HG.out, HE.out⟩
        | succ g =>
          have hkn : k < n := by omega
          have HTR := Lib.hid (HT.out.below HG.out.bel)
          obtain ⟨au, hkl, hAu, u0⟩ := HTR.out.p0.int hkn
          have hal2 := World.block_lt_of_cell? wr _ u0
          have HSU := Lib.hid (kidsU_succ us k p)
          rw [List.getElem?_eq_getElem hkl] at HSU
          subst hAu
          have HMK0 : Hid (us[k] = (p : Int) → k ∈ kidsU us us.length p) := Lib.hid (fun h => kidsU_mem.2 ⟨hkl, by rw [List.getElem?_eq_getElem hkl, h]⟩)
          generalize us[k] = x at *
          have HIQ := Lib.hid (fun V (hk : k ∈ kidsU us us.length p) (h : GrAt S0 w b6 bx (.slice A5 lm c5) (.string nm) (.bool gs) d L X cx V) => HIH.out k V hk hkn (HT.out.below h.bel).p1 ((HT.out.below h.bel).p0.more h.bel.size) (fun q hq => (HM.out q hq).below h.bel) (fun b hb => HB0.out b (Nat.le_trans h.bel.size hb)))
          go_upto_block 1 with fail
          clear HTR
          go_cut [] (fun wx => ∃ (X2 : Option Addr) (cx2 : Nat) (L2 : List RT), GrAt S0 w b6 bx (.slice A5 lm c5) (.string nm) (.bool gs) d L2 X2 cx2 wx ∧ All2 (GrT ns us d) (kidsU us (k + 1) p) L2 ∧ L2.length ≤ k + 1)
          case first =>
            by_cases hx : x = (p : Int)
            · subst hx
              have HS2 := Lib.hid (show kidsU us (k + 1) p = kidsU us k p ++ [k] by rw [HSU.out, if_pos rfl])
              have HMK := Lib.hid (show k ∈ kidsU us us.length p from HMK0.out rfl)
              clear HSU HMK0
              go_upto_region 6 with fail
              clear u0 hal2
              have tokA : True := trivial
              have tokB : True := trivial
              obtain ⟨D, hD⟩ : ∃ D, wr.drew = D := ⟨_, rfl⟩
              have HGD := Lib.hid (show GrAt S0 w b6 bx (.slice A5 lm c5) (.string nm) (.bool gs) d L X cx D by rw [← hD]; exact HG.out.below (Below.refl _ _).drew)
              have c3 := HGD.out.box.cell 3
              simp only [List.getElem?_cons_zero, List.getElem?_cons_succ] at c3
              have hLn : L.length ≤ 1000 := by omega
              clear HG
              go_region_law (first
                | (have tk := tokA; go_simp; go_at_call 22; (with_reducible refine (HIQ.out _ HMK.out HGD.out).mono ?_); rintro e wq ⟨q, he, hgq, hfq, hbq⟩; obtain ⟨A7, c7, A8, c8, hv7, hv8⟩ := okAt_form hfq.now; have hval : q.val = .agg #[.slice A7 q.ms.length c7, .string q.nm, .bool q.goes, .slice A8 q.kids.length c8] := (by unfold RT.val; rw [hv7, hv8]); rw [hval] at he; subst he; have HGR := Lib.hid hgq; have HCE := Lib.hid (show q.cells = (.slice A7 q.ms.length c7, .string q.nm, .bool q.goes, .slice A8 q.kids.length c8) from (by unfold RT.cells; rw [hv7, hv8])); generalize hm7 : q.ms.length = m7 at *; generalize hm8 : q.kids.length = m8 at *; generalize hqn : q.nm = qn at *; generalize hqg : q.goes = qg at *; have HGA := Lib.hid (HGD.out.below (hbq.alloc hbq.size (.cells #[.slice A7 m7 c7, .string qn, .bool qg, .slice A8 m8 c8] 28))); have HFA := Lib.hid ((hfq.below ((Below.refl wq.heap.size wq).alloc (Nat.le_refl _) (.cells #[.slice A7 m7 c7, .string qn, .bool qg, .slice A8 m8 c8] 28))).mono (S' := (fun b => S0 b ∧ b ≤ bx ∨ (Value.slice X L.length cx).ownBlock = some b)) (fun b hb hS => by rcases hS with hS | hS; exact ⟨hS.1, by have := HGD.out.box.lt; omega⟩; exact ⟨HGD.out.new b (by have h1 := (HGD.out.row.lt b hS); have := HGD.out.lt; omega), (HGD.out.row.lt b hS).2⟩)); have HX := Lib.hid (show Sees (wq.alloc (.cells #[.slice A7 m7 c7, .string qn, .bool qg, .slice A8 m8 c8] 28)) (wq.alloc (.cells #[.slice A7 m7 c7, .string qn, .bool qg, .slice A8 m8 c8] 28)).heap.size 4 (some ⟨wq.heap.size, 0, none⟩) 1 [.slice A7 m7 c7, .string qn, .bool qg, .slice A8 m8 c8] from (Blk.mk (heap_alloc_new wq _) : Blk _ wq.heap.size 28 [.slice A7 m7 c7, .string qn, .bool qg, .slice A8 m8 c8]).sees rfl (List.prefix_refl _)); have c3q := (HGD.out.below hbq).box.cell 3; have c3a := HGA.out.box.cell 3; simp only [List.getElem?_cons_zero, List.getElem?_cons_succ] at c3q c3a; clear tokA tk hgq hfq hbq hv7 hv8 hval hm7 hm8 hqn hqg)
                | (have tk := tokB; refine step_append_at3 rfl (.tmp 25) (.tmp 30) 26 rfl (bx + 1) 28 i0 (.agg #[.slice none 0 0, .string ⟨#[]⟩, .bool false, .slice none 0 0]) 4 72 Try.underlying26 hi0 hz0 hz1 hz2 rfl (by decide) (.slice X L.length cx) L.length (quad (L.map RT.cells)) (by first | rfl | (simp [Act.eval]; done)) HGA.out.row _ (some ⟨wq.heap.size, 0, none⟩) 1 1 [.slice A7 m7 c7, .string qn, .bool qg, .slice A8 m8 c8] (by first | rfl | (simp [Act.eval]; done)) HX.out (quad_one4 _ _ _ _) (by unfold maxLen; omega) (by omega) HGA.out.bx1 ?_; intro v9 w9 hown9 hgr9 hwh9; obtain ⟨A9, c9, rfl, _, _⟩ := own_slice hown9; have HO9 := Lib.hid hown9; have HR9 := Lib.hid hgr9; have HW9 := Lib.hid hwh9; have hbk := HGA.out.box.grown hgr9 (fun e => by have := (HGA.out.row.lt bx e.symm).1; omega); have c39 := hbk.cell 3; have f39 := hbk.frozen 3; simp only [List.getElem?_cons_zero, List.getElem?_cons_succ] at c39; clear tokB tk hown9 hgr9 hwh9 hbk c3a c3q)
                | fail)
              all_goals
                have HF := Lib.hid (show All2 (GrT ns us d) (kidsU us (k + 1) p) (L ++ [q]) by rw [HS2.out]; exact forall2_snoc H2.out HGR.out)
                have hLk2 : (L ++ [q]).length ≤ k + 1 := by rw [List.length_append]; simp only [List.length_cons, List.length_nil]; omega
                have HZ := Lib.hid (HGA.out.more HFA.out (by rw [HCE.out]; exact HO9.out) HR9.out HW9.out)
                have HLE := Lib.hid (show (L ++ [q]).length = L.length + 1 by simp)
                clear HGA HFA HO9 HR9 HW9 HCE HX
                go_wp2_with fail
                go_meet
                exact ⟨A9, c9, L ++ [q], HZ.out, HF.out, hLk2⟩
            · have hx1 : (x == (p : Int)) = false := by rw [beq_eq_false_iff_ne]; exact hx
              have HS2 := Lib.hid (show kidsU us (k + 1) p = kidsU us k p by rw [HSU.out, if_neg (by intro e; injection e with e; exact hx e), List.append_nil])
              clear HSU
              go_wp2_with fail
              go_meet
              exact ⟨X, cx, L, HG.out, by rw [HS2.out]; exact H2.out, by omega⟩
          case rest =>
            obtain ⟨X2, cx2, L2, hat, h2, hLk2⟩ := hcut
            have HG2 := Lib.hid hat
            have HF := Lib.hid h2
            clear hat h2
            go_wp2_with fail
            go_roundg g
            case measure => omega
            case rel => exact ⟨k + 1, X2, cx2, L2, by omega, by go_num, HG2.out, HF.out, hLk2⟩
    case rest =>
      obtain ⟨X, cx, L, hat, h2⟩ := hcut
      have HG := Lib.hid hat; have H2 := Lib.hid h2
      clear hat h2 HG0
      have b0 := HG.out.box.cell 0
      have b1 := HG.out.box.cell 1
      have b2 := HG.out.box.cell 2
      have b3 := HG.out.box.cell 3
      simp only [List.getElem?_cons_zero, List.getElem?_cons_succ] at b0 b1 b2 b3
      have r0 := HG.out.res.cell 0
      have r1 := HG.out.res.cell 1
      have r2 := HG.out.res.cell 2
      have r3 := HG.out.res.cell 3
      simp only [List.getElem?_cons_zero, List.getElem?_cons_succ] at r0 r1 r2 r3
      have f0 := HG.out.res.frozen 0
      have f1 := HG.out.res.frozen 1
      have f2 := HG.out.res.frozen 2
      have f3 := HG.out.res.frozen 3
      have hrs := (((HG.out.res.set 0 (.slice A5 lm c5)).set 1 (.string nm)).set 2 (.bool gs)).set 3 (.slice X L.length cx)
      have HRS := Lib.hid (show Blk ((((wc.setCell ⟨b6, 0, none⟩ (.slice A5 lm c5)).setCell ⟨b6, 1, none⟩ (.string nm)).setCell ⟨b6, 2, none⟩ (.bool gs)).setCell ⟨b6, 3, none⟩ (.slice X L.length cx)) b6 28 [.slice A5 lm c5, .string nm, .bool gs, .slice X L.length cx] from hrs)
      have hlt := HG.out.lt
      have HBZ := Lib.hid ((((HG.out.bel.setCell (p := ⟨b6, 0, none⟩) hlt.1 (.slice A5 lm c5)).setCell (p := ⟨b6, 1, none⟩) hlt.1 (.string nm)).setCell (p := ⟨b6, 2, none⟩) hlt.1 (.bool gs)).setCell (p := ⟨b6, 3, none⟩) hlt.1 (.slice X L.length cx))
      have HTZ := Lib.hid (HG.out.tree (w' := (((wc.setCell ⟨b6, 0, none⟩ (.slice A5 lm c5)).setCell ⟨b6, 1, none⟩ (.string nm)).setCell ⟨b6, 2, none⟩ (.bool gs)).setCell ⟨b6, 3, none⟩ (.slice X L.length cx)) (HMP.out.below HG.out.bel) (by simp [World.setCell]) (fun b hb hn => by
        rw [Below.heap_setCell _ ⟨b6, 3, none⟩ _ b hn, Below.heap_setCell _ ⟨b6, 2, none⟩ _ b hn, Below.heap_setCell _ ⟨b6, 1, none⟩ _ b hn, Below.heap_setCell _ ⟨b6, 0, none⟩ _ b hn]))
      clear hrs
      go_wp2_with fail
      have q0 := HRS.out.cell 0
      have q1 := HRS.out.cell 1
      have q2 := HRS.out.cell 2
      have q3 := HRS.out.cell 3
      simp only [List.getElem?_cons_zero, List.getElem?_cons_succ] at q0 q1 q2 q3
      generalize (((wc.setCell ⟨b6, 0, none⟩ (.slice A5 lm c5)).setCell ⟨b6, 1, none⟩ (.string nm)).setCell ⟨b6, 2, none⟩ (.bool gs)).setCell ⟨b6, 3, none⟩ (.slice X L.length cx) = WZ at *
      refine bodyPost_ret (v := .agg #[.slice A5 lm c5, .string nm, .bool gs, .slice X L.length cx]) (by simp [results, Try.results22, go_sem, q0, q1, q2, q3]) rfl ⟨_, rfl, HGT.out L (.slice X L.length cx) H2.out, HTZ.out, HBZ.out⟩
end Go.Proofs.Ytddkkfjgdfdcnaa
