/- What the arguments' readings say of memory: slices of silences, of inhibitions, of numbers for sets. -/
import Derived.Test.YtfcjalojgmpnoaaArgsRows
import Derived.Test.YtfcjalojgmpnoaaArgsMtc
import Derived.Test.YtfcjalojgmpnoaaMuteMath
import Derived.Test.YtfcjalojgmpnoaaSetMath
namespace Go.Proofs.Ytfcjalojgmpnoaa
open Go.RowKit Go.ChangeShapes Go.WideShapes Go.ChangeAt
set_option linter.unusedVariables false
theorem sees_tri {w : World} {B len : Nat} {A : Option Addr} {V : Nat → Nat → Value} (h1 : 0 < len → ∃ a, A = some a ∧ a.block < B ∧ ∀ i j, i < len → j < 3 → w.cell? (a.add (i * 3 + j)) = some (V i j)) :
    Sees w B 3 A len (tri ((List.range len).map fun i => (V i 0, V i 1, V i 2))) := by
  refine ⟨by rw [tri_length]; simp, fun hn => ?_⟩
  obtain ⟨a, e, hb, hc⟩ := h1 hn
  refine ⟨a, e, hb, fun j u hu => ?_⟩
  have hj : j < len * 3 := by
    have := (List.getElem?_eq_some_iff.1 hu).1
    rw [tri_length] at this; simpa using this
  have hi : j / 3 < len := by omega
  obtain ⟨g0, g1, g2⟩ := tri_get ((List.range len).map fun i => (V i 0, V i 1, V i 2)) (j / 3) (by simpa using hi)
  have hgi : ((List.range len).map fun i => (V i 0, V i 1, V i 2))[j / 3]'(by simpa using hi) = (V (j / 3) 0, V (j / 3) 1, V (j / 3) 2) := by simp
  rw [hgi] at g0 g1 g2
  have h3 : j % 3 = 0 ∨ j % 3 = 1 ∨ j % 3 = 2 := by omega
  rcases h3 with h3 | h3 | h3
  · have e2 : j / 3 * 3 = j := by omega
    have := hc (j / 3) 0 hi (by omega)
    rw [Nat.add_zero, e2] at this
    rw [e2] at g0; rw [g0] at hu; injection hu with hu; subst hu; exact this
  · have e2 : j / 3 * 3 + 1 = j := by omega
    have := hc (j / 3) 1 hi (by omega)
    rw [e2] at this
    rw [e2] at g1; rw [g1] at hu; injection hu with hu; subst hu; exact this
  · have e2 : j / 3 * 3 + 2 = j := by omega
    have := hc (j / 3) 2 hi (by omega)
    rw [e2] at this
    rw [e2] at g2; rw [g2] at hu; injection hu with hu; subst hu; exact this
def mtsOk (l : List Mtc) : Prop := ∀ z ∈ l, z.1.size ≤ maxLen ∧ z.2.1.size ≤ maxLen
def ASils (w : World) (B : Nat) (A : Option Addr) (l : List Sil) : Prop := SilsAt w A l.length l ∧ ∀ x ∈ l, I64 x.f ∧ I64 x.t ∧ mtsOk x.ms
def AInhs (w : World) (B : Nat) (A : Option Addr) (l : List Inh) : Prop := InhsAt w A l.length l ∧ ∀ x ∈ l, mtsOk x.src ∧ mtsOk x.dst ∧ ∀ s ∈ x.eq, s.size ≤ maxLen
def AKSets (w : World) (B : Nat) (A : Option Addr) (qs : List KSet) : Prop :=
  ∀ i (h : i < qs.length), ∃ ad, A = some ad ∧ ad.block < B ∧ w.cell? (ad.add (i * 2)) = some (.slice qs[i].A qs[i].n qs[i].c) ∧ w.cell? ⟨(ad.add (i * 2)).block, (ad.add (i * 2)).off + 1, none⟩ = some (.slice qs[i].A2 qs[i].n2 qs[i].c2) ∧ qs[i].ok B w
theorem AKSets.below {w w' : World} {B : Nat} {A : Option Addr} {qs : List KSet} (h : AKSets w B A qs) (hb : Below B w w') : AKSets w' B A qs := fun i hi => by
  obtain ⟨ad, e, hB, c0, c1, hk⟩ := h i hi
  have hb2 : ∀ o, w'.cell? ⟨(ad.add (i * 2)).block, o, none⟩ = w.cell? ⟨(ad.add (i * 2)).block, o, none⟩ := fun o => hb.cell (p := ⟨_, o, none⟩) (by rw [add_block]; exact hB)
  exact ⟨ad, e, hB, (hb.cell (by rw [add_block]; exact hB)).trans c0, (hb2 _).trans c1, hk.below hb⟩
section
variable {w : World} {base : Nat} {spare : Nat → Bool} {held : Bool} {H : Type} {enc : TypeId × Value → H}
theorem cell_mtcs {k : Nat} {v : Value} {x : DataW H × List MemPlace} (h : DataW.trod enc Try.prog w base spare held k 25 [v] = some x) : ∃ ms, HasM w v ms ∧ mtsOk ms := by
  obtain ⟨a, n, c, rfl, h4⟩ := cell_slice Try.underlying25 h
  obtain ⟨zs, s1, s2, s3, s4⟩ := arg_mtcs Try.underlying25 Try.underlying56 (by kernel_rfl) rfl rfl rfl (by kernel_rfl) (by kernel_rfl) (by kernel_rfl) Try.underlying9 Try.underlying9 Try.underlying3 h4
  have hl := s1.mtc_len
  exact ⟨zs, ⟨a, c, by rw [hl], by rw [hl]; exact s1, by rw [hl]; exact s2, s3⟩, fun z hz => ⟨(s4 z hz).1, (s4 z hz).2.1⟩⟩
theorem cell_strs {k : Nat} {v : Value} {x : DataW H × List MemPlace} (h : DataW.trod enc Try.prog w base spare held k 27 [v] = some x) : ∃ l, HasS w v l ∧ ∀ s ∈ l, s.size ≤ maxLen := by
  obtain ⟨a, n, c, rfl, h4⟩ := cell_slice Try.underlying27 h
  obtain ⟨zs, s1, s2, s3, s4⟩ := arg_strs Try.underlying27 Try.underlying9 (by kernel_rfl) h4
  have hl := s1.str_len
  exact ⟨zs, ⟨a, c, by rw [hl], by rw [hl]; exact s1, by rw [hl]; exact s2, s3⟩, s4⟩
theorem arg_sils {fuel : Nat} {a0 : Option Addr} {len cap : Nat} {x : DataW H × List MemPlace}
    (h : DataW.trod enc Try.prog w base spare held fuel 36 (Value.slice a0 len cap).cells.toList = some x) :
    ∃ zs : List Sil, ASils w w.heap.size a0 zs ∧ zs.length = len ∧ len ≤ cap ∧ cap ≤ 9223372036854775807 := by
  obtain ⟨V, h1, h2, h3, h4⟩ := arg_rows (K := 3) Try.underlying36 Try.underlying31 (by kernel_rfl) (by omega) (by
    intro j f hj
    match j, hj with
    | 0, hj => simp at hj; subst hj; exact ⟨rfl, by kernel_rfl, by omega⟩
    | 1, hj => simp at hj; subst hj; exact ⟨rfl, by kernel_rfl, by omega⟩
    | 2, hj => simp at hj; subst hj; exact ⟨rfl, by kernel_rfl, by omega⟩
    | j + 3, hj => simp at hj) h
  have each : ∀ i, i < len → ∃ q : Sil, q.cells = (V i 0, V i 1, V i 2) ∧ HasM w q.v q.ms ∧ I64 q.f ∧ I64 q.t ∧ mtsOk q.ms := by
    intro i hi
    obtain ⟨_, _, g0⟩ := h4 i 0 _ hi rfl
    obtain ⟨_, _, g1⟩ := h4 i 1 _ hi rfl
    obtain ⟨_, _, g2⟩ := h4 i 2 _ hi rfl
    obtain ⟨ms, hm, hok⟩ := cell_mtcs g0
    obtain ⟨z1, e1, w1⟩ := cell_int Try.underlying3 g1
    obtain ⟨z2, e2, w2⟩ := cell_int Try.underlying3 g2
    exact ⟨⟨V i 0, ms, z1, z2⟩, by simp [Sil.cells, e1, e2], hm, wf_of w1, wf_of w2, hok⟩
  have : Inhabited Sil := ⟨⟨.int .i64 0, [], 0, 0⟩⟩
  obtain ⟨q, hq⟩ := Deep.choose_lt each
  have hs := sees_tri h1
  have hm : (List.range len).map (fun i => (V i 0, V i 1, V i 2)) = ((List.range len).map q).map Sil.cells := by
    rw [List.map_map]; exact List.map_congr_left fun i hi => ((hq i (by simpa using hi)).1).symm
  rw [hm] at hs
  refine ⟨(List.range len).map q, ⟨⟨by simpa using hs, fun x hx => ?_⟩, fun x hx => ?_⟩, by simp, h2, h3⟩ <;> (simp only [List.mem_map, List.mem_range] at hx; obtain ⟨i, hi, rfl⟩ := hx)
  · exact (hq i hi).2.1
  · exact (hq i hi).2.2
theorem arg_inhs {fuel : Nat} {a0 : Option Addr} {len cap : Nat} {x : DataW H × List MemPlace}
    (h : DataW.trod enc Try.prog w base spare held fuel 37 (Value.slice a0 len cap).cells.toList = some x) :
    ∃ zs : List Inh, AInhs w w.heap.size a0 zs ∧ zs.length = len ∧ len ≤ cap ∧ cap ≤ 9223372036854775807 := by
  obtain ⟨V, h1, h2, h3, h4⟩ := arg_rows (K := 3) Try.underlying37 Try.underlying29 (by kernel_rfl) (by omega) (by
    intro j f hj
    match j, hj with
    | 0, hj => simp at hj; subst hj; exact ⟨rfl, by kernel_rfl, by omega⟩
    | 1, hj => simp at hj; subst hj; exact ⟨rfl, by kernel_rfl, by omega⟩
    | 2, hj => simp at hj; subst hj; exact ⟨rfl, by kernel_rfl, by omega⟩
    | j + 3, hj => simp at hj) h
  have each : ∀ i, i < len → ∃ q : Inh, q.cells = (V i 0, V i 1, V i 2) ∧ (HasM w q.vs q.src ∧ HasM w q.vd q.dst ∧ HasS w q.ve q.eq) ∧ mtsOk q.src ∧ mtsOk q.dst ∧ ∀ s ∈ q.eq, s.size ≤ maxLen := by
    intro i hi
    obtain ⟨_, _, g0⟩ := h4 i 0 _ hi rfl
    obtain ⟨_, _, g1⟩ := h4 i 1 _ hi rfl
    obtain ⟨_, _, g2⟩ := h4 i 2 _ hi rfl
    obtain ⟨ms, hm, hok⟩ := cell_mtcs g0
    obtain ⟨ms2, hm2, hok2⟩ := cell_mtcs g1
    obtain ⟨es, he, hok3⟩ := cell_strs g2
    exact ⟨⟨V i 0, ms, V i 1, ms2, V i 2, es⟩, rfl, ⟨hm, hm2, he⟩, hok, hok2, hok3⟩
  have : Inhabited Inh := ⟨⟨.int .i64 0, [], .int .i64 0, [], .int .i64 0, []⟩⟩
  obtain ⟨q, hq⟩ := Deep.choose_lt each
  have hs := sees_tri h1
  have hm : (List.range len).map (fun i => (V i 0, V i 1, V i 2)) = ((List.range len).map q).map Inh.cells := by
    rw [List.map_map]; exact List.map_congr_left fun i hi => ((hq i (by simpa using hi)).1).symm
  rw [hm] at hs
  refine ⟨(List.range len).map q, ⟨⟨by simpa using hs, fun x hx => ?_, fun x hx => ?_, fun x hx => ?_⟩, fun x hx => ?_⟩, by simp, h2, h3⟩ <;> (simp only [List.mem_map, List.mem_range] at hx; obtain ⟨i, hi, rfl⟩ := hx)
  · exact (hq i hi).2.1.1
  · exact (hq i hi).2.1.2.1
  · exact (hq i hi).2.1.2.2
  · exact (hq i hi).2.2
theorem cell_ints {k : Nat} {v : Value} {x : DataW H × List MemPlace} (h : DataW.trod enc Try.prog w base spare held k 41 [v] = some x) : ∃ a n c zs, v = .slice a n c ∧ Sees w w.heap.size 1 a n (ints zs) ∧ (∀ z ∈ zs, I64 z) ∧ n ≤ c ∧ c ≤ 9223372036854775807 := by
  obtain ⟨a, n, c, rfl, h4⟩ := cell_slice Try.underlying41 h
  obtain ⟨zs, s1, s2, s3, s4⟩ := arg_ints Try.underlying41 Try.underlying3 (by kernel_rfl) h4
  exact ⟨a, n, c, zs, rfl, s1, fun z hz => wf_of (s4 z hz), s2, s3⟩
theorem arg_ksets {fuel : Nat} {a0 : Option Addr} {len cap : Nat} {x : DataW H × List MemPlace}
    (h : DataW.trod enc Try.prog w base spare held fuel 40 (Value.slice a0 len cap).cells.toList = some x) :
    ∃ zs : List KSet, AKSets w w.heap.size a0 zs ∧ zs.length = len ∧ len ≤ cap ∧ cap ≤ 9223372036854775807 := by
  obtain ⟨V, h1, h2, h3, h4⟩ := arg_rows (K := 2) Try.underlying40 Try.underlying43 (by kernel_rfl) (by omega) (by
    intro j f hj
    match j, hj with
    | 0, hj => simp at hj; subst hj; exact ⟨rfl, by kernel_rfl, by omega⟩
    | 1, hj => simp at hj; subst hj; exact ⟨rfl, by kernel_rfl, by omega⟩
    | j + 2, hj => simp at hj) h
  have each : ∀ i, i < len → ∃ q : KSet, V i 0 = .slice q.A q.n q.c ∧ V i 1 = .slice q.A2 q.n2 q.c2 ∧ q.ok w.heap.size w := by
    intro i hi
    obtain ⟨_, _, g0⟩ := h4 i 0 _ hi rfl
    obtain ⟨_, _, g1⟩ := h4 i 1 _ hi rfl
    obtain ⟨a, n, c, z, e, s1, s2, s3⟩ := cell_ints g0
    obtain ⟨a', n', c', z', e', s1', s2', s3'⟩ := cell_ints g1
    exact ⟨⟨a, n, c, z, a', n', c', z'⟩, e, e', ⟨s1, s2, s3, s1', s2', s3'⟩⟩
  have : Inhabited KSet := ⟨⟨none, 0, 0, [], none, 0, 0, []⟩⟩
  obtain ⟨q, hq⟩ := Deep.choose_lt each
  refine ⟨(List.range len).map q, fun i hi => ?_, by simp, h2, h3⟩
  have hi' : i < len := by simpa using hi
  obtain ⟨ad, e, hB, hc⟩ := h1 (by omega)
  obtain ⟨e0, e1, hk⟩ := hq i hi'
  have hg : ((List.range len).map q)[i] = q i := by simp
  rw [hg]
  refine ⟨ad, e, hB, ?_, ?_, hk⟩
  · rw [← e0]; exact hc i 0 hi' (by omega)
  · rw [← e1, add_spelt ad (i * 2) 1 (by omega)]; exact hc i 1 hi' (by omega)
end
end Go.Proofs.Ytfcjalojgmpnoaa
