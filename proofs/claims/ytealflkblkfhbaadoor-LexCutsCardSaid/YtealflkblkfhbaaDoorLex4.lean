/- lex.Signs, sign. -/
import Derived.Test.YtealflkblkfhbaaDoorLexMath
namespace Go.Proofs.YtealflkblkfhbaaDoor
open Go.ChangeShapes Go.WideShapes Go.ChangeAt Go.RowKit
set_option linter.unusedVariables false
set_option linter.unusedSimpArgs false
set_option maxRecDepth 100000
def signsL : List ByteArray := [⟨#[33, 61]⟩, ⟨#[94, 61]⟩, ⟨#[33, 94]⟩, ⟨#[61, 61]⟩, ⟨#[60, 61]⟩, ⟨#[62, 61]⟩, ⟨#[40]⟩, ⟨#[41]⟩, ⟨#[123]⟩, ⟨#[125]⟩, ⟨#[91]⟩, ⟨#[93]⟩, ⟨#[44]⟩, ⟨#[61]⟩, ⟨#[60]⟩, ⟨#[62]⟩, ⟨#[43]⟩, ⟨#[45]⟩, ⟨#[42]⟩, ⟨#[47]⟩, ⟨#[37]⟩, ⟨#[58]⟩]
/-- The first of these that a text begins with. -/
def signIn (l : List UInt8) : List ByteArray → Option (Tok × Nat)
  | [] => none
  | x :: r => if Lib.hasPrefix l x.data.toList = true then some (⟨4, 0, 0, x⟩, x.size) else signIn l r
def txs1 (l : List ByteArray) : List Value := l.map Value.string
theorem signIn_drop {l : List UInt8} {L : List ByteArray} {k : Nat} (h : k < L.length) : signIn l (L.drop k) = if Lib.hasPrefix l (L[k]).data.toList = true then some (⟨4, 0, 0, L[k]⟩, (L[k]).size) else signIn l (L.drop (k + 1)) := by
  rw [List.drop_eq_getElem_cons h]; rfl
theorem lsigns_any (w : World) : Calls Tryd.prog 15 #[] w fun e w' => e = .returned (.slice (some ⟨w.heap.size, 0, none⟩) 22 22) ∧ w.alloc (.cells (txs1 signsL).toArray 9) = w' := by
  go_enter Tryd.func15, Tryd.ntmps15
  go_wp2_with fail
  go_ret
  exact ⟨rfl, rfl⟩
set_option maxHeartbeats 8000000 in
theorem lsign_any (s : ByteArray) (w : World) (hs : s.size ≤ 35184372088832) :
    Calls Tryd.prog 31 #[.string s] w (FirstAns (signIn s.data.toList signsL) w) := by
  have HB0 := Lib.hid ((Below.refl w.heap.size w).alloc (Nat.le_refl _) (.cells #[.int .i64 0, .int .i64 0, .int .i64 0, .string ⟨#[]⟩] 27))
  have HK0 := Lib.hid (Blk.mk (heap_alloc_new w (.cells #[.int .i64 0, .int .i64 0, .int .i64 0, .string ⟨#[]⟩] 27)) : Blk _ w.heap.size 27 [.int .i64 0, .int .i64 0, .int .i64 0, .string ⟨#[]⟩])
  obtain ⟨tot, htot⟩ : ∃ tot, signIn s.data.toList signsL = tot := ⟨_, rfl⟩
  rw [htot]
  have HTOT := Lib.hid (show tot = signIn s.data.toList (signsL.drop 0) from htot.symm)
  obtain ⟨b2, hb2⟩ : ∃ b, w.heap.size = b := ⟨_, rfl⟩
  obtain ⟨W1, hW1⟩ : ∃ W, w.alloc (.cells #[.int .i64 0, .int .i64 0, .int .i64 0, .string ⟨#[]⟩] 27) = W := ⟨_, rfl⟩
  rw [hW1] at HB0 HK0
  rw [hb2] at HK0
  have HB2 := Lib.hid hb2; have HW1 := Lib.hid hW1
  have hb2le : w.heap.size ≤ b2 := by rw [hb2]; exact Nat.le_refl _
  clear hb2 hW1 htot
  go_enter Tryd.func31, Tryd.ntmps31
  go_upto_region 1 with fail
  rw [HW1.out, HB2.out]
  go_wp2_with fail
  (with_reducible refine (lsigns_any _).mono ?_); rintro e w2 ⟨rfl, hw2⟩
  have HS0 := Lib.hid (show Blk w2 W1.heap.size 9 (txs1 signsL) by rw [← hw2]; exact Blk.mk (heap_alloc_new W1 _))
  have hb12 : Below W1.heap.size W1 w2 := by rw [← hw2]; exact (Below.refl _ _).alloc (Nat.le_refl _) _
  have HB1 := Lib.hid (HB0.out.trans (hb12.mono HB0.out.size))
  have HK1 := Lib.hid (HK0.out.below hb12 HK0.out.lt)
  obtain ⟨bs, hbs⟩ : ∃ b, W1.heap.size = b := ⟨_, rfl⟩
  rw [hbs] at HS0
  have HBS := Lib.hid hbs
  clear hw2 hb12 hbs HB0 HK0
  rw [show (⟨W1.heap.size, 0, none⟩ : Addr) = ⟨bs, 0, none⟩ by rw [HBS.out]]
  go_wp2_with fail
  go_loopg [8] 22 (fun g x8 wr => ∃ k : Nat, k + g = 22 ∧ x8 = .int .i64 k ∧ tot = signIn s.data.toList (signsL.drop k) ∧ Blk wr b2 27 [.int .i64 0, .int .i64 0, .int .i64 0, .string ⟨#[]⟩] ∧ Blk wr bs 9 (txs1 signsL) ∧ Below w.heap.size w wr)
  case atStart => exact ⟨0, by omega, rfl, HTOT.out, HK1.out, HS0.out, HB1.out⟩
  case round =>
    obtain ⟨k, hkg, rfl, ht, hblk, hsg, hbel⟩ := hrel
    have HT := Lib.hid ht; have HK := Lib.hid hblk; have HS := Lib.hid hsg; have HB := Lib.hid hbel
    clear ht hblk hsg hbel HTOT HK1 HS0 HB1
    cases gk with
    | zero =>
      have hk22 : (22 : Int) ≤ k := by omega
      have HN := Lib.hid (show tot = none by rw [HT.out, List.drop_eq_nil_of_le (by show 22 ≤ k; omega)]; rfl)
      obtain ⟨WW, hWW⟩ : ∃ W, wr = W := ⟨_, rfl⟩
      subst hWW
      have HBZ := Lib.hid (set4W_below HB.out hb2le (.int .i64 0) (.int .i64 0) (.int .i64 0) (.string ⟨#[]⟩))
      have HKZ := Lib.hid (set4W_blk HK.out (.int .i64 0) (.int .i64 0) (.int .i64 0) (.string ⟨#[]⟩))
      obtain ⟨f0, f1, f2, f3⟩ : wr.frozen? ⟨b2, 0, none⟩ = false ∧ wr.frozen? ⟨b2, 1, none⟩ = false ∧ wr.frozen? ⟨b2, 2, none⟩ = false ∧ wr.frozen? ⟨b2, 3, none⟩ = false := ⟨HK.out.frozen 0, HK.out.frozen 1, HK.out.frozen 2, HK.out.frozen 3⟩
      obtain ⟨c0, c1, c2, c3⟩ := blk_cells4 HK.out
      go_wp2_with fail
      obtain ⟨q0, q1, q2, q3⟩ := blk_cells4 HKZ.out
      unfold set4W at q0 q1 q2 q3 HBZ
      refine bodyPost_ret (v := .tuple #[.agg #[.int .i64 0, .int .i64 0, .int .i64 0, .string ⟨#[]⟩], .int .i64 0]) (by simp [results, Tryd.results31, go_sem, q0, q1, q2, q3]) rfl ?_
      exact firstAns_no HN.out HBZ.out rfl
    | succ g =>
      have hk22 : k < 22 := by omega
      have hkL : k < signsL.length := hk22
      have HST := Lib.hid (signIn_drop (l := s.data.toList) hkL)
      have hc : wr.cell? ⟨bs, k, none⟩ = some (.string (signsL[k]'hkL)) := by
        rw [HS.out.cell k]
        unfold txs1
        rw [List.getElem?_map, List.getElem?_eq_getElem hkL]; rfl
      have hxl : (signsL[k]'hkL).size ≤ 2 := by
        have : ∀ x ∈ signsL, x.size ≤ 2 := by decide
        exact this _ (List.getElem_mem hkL)
      generalize signsL[k]'hkL = x at *
      have hpf := Tryd.strings_HasPrefix s x wr
      obtain ⟨q, hq⟩ : ∃ q, Lib.hasPrefix s.data.toList x.data.toList = q := ⟨_, rfl⟩
      rw [hq] at hpf HST
      have HP := Lib.hid hpf
      clear hq hpf
      cases q with
      | true =>
        have HN := Lib.hid (show tot = some (⟨4, 0, 0, x⟩, x.size) by rw [HT.out, HST.out, if_pos rfl])
        clear HT HST HS
        have HBZ := Lib.hid (set4W_below HB.out hb2le (.int .i64 4) (.int .i64 0) (.int .i64 0) (.string x))
        have HKZ := Lib.hid (set4W_blk HK.out (.int .i64 4) (.int .i64 0) (.int .i64 0) (.string x))
        obtain ⟨f0, f1, f2, f3⟩ : wr.frozen? ⟨b2, 0, none⟩ = false ∧ wr.frozen? ⟨b2, 1, none⟩ = false ∧ wr.frozen? ⟨b2, 2, none⟩ = false ∧ wr.frozen? ⟨b2, 3, none⟩ = false := ⟨HK.out.frozen 0, HK.out.frozen 1, HK.out.frozen 2, HK.out.frozen 3⟩
        obtain ⟨c0, c1, c2, c3⟩ := blk_cells4 HK.out
        go_wp2_with fail
        (with_reducible refine HP.out.mono ?_); rintro e w' ⟨rfl, rfl⟩
        go_wp2_with fail
        obtain ⟨q0, q1, q2, q3⟩ := blk_cells4 HKZ.out
        unfold set4W at q0 q1 q2 q3 HBZ
        refine bodyPost_ret (v := .tuple #[.agg #[.int .i64 4, .int .i64 0, .int .i64 0, .string x], .int .i64 x.size]) (by simp [results, Tryd.results31, go_sem, q0, q1, q2, q3]) rfl ?_
        exact firstAns_yes HN.out HBZ.out rfl
      | false =>
        have HN := Lib.hid (show tot = signIn s.data.toList (signsL.drop (k + 1)) by rw [HT.out, HST.out, if_neg (by simp)])
        clear HT HST
        go_wp2_with fail
        (with_reducible refine HP.out.mono ?_); rintro e w' ⟨rfl, rfl⟩
        go_wp2_with fail
        go_roundg g
        case measure => omega
        case rel => exact ⟨k + 1, by omega, by go_num, HN.out, HK.out, HS.out, HB.out⟩
end Go.Proofs.YtealflkblkfhbaaDoor
