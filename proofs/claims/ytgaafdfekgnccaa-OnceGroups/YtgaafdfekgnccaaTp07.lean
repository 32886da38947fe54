/-
  Lemmas: Open.
-/
import Derived.Test.YtgaafdfekgnccaaTp05
import Derived.Test.YtgaafdfekgnccaaTp06
import Derived.SizedLaws
import Derived.Deep.Slices
/-
  The arguments opened: words, numbers, bools, hands.
-/
namespace Go.Proofs.Ytgaafdfekgnccaa
open Go.ChangeShapes Go.WideShapes Go.ChangeAt Go.RowKit Go.Deep
set_option linter.unusedVariables false
set_option linter.unusedSimpArgs false
set_option maxRecDepth 100000

theorem ncells46 : Try.prog.cellsOf 46 = 1 := by kernel_rfl
theorem ncells3 : Try.prog.cellsOf 3 = 1 := by kernel_rfl
theorem ncells4 : Try.prog.cellsOf 4 = 1 := by kernel_rfl
theorem ncells49 : Try.prog.cellsOf 49 = 1 := by kernel_rfl
theorem ncells51 : Try.prog.cellsOf 48 = 5 := by kernel_rfl

section
variable {H : Type} {enc : TypeId × Value → H} {W : World} {base : Nat} {v : Value} {d : DataW H} {p : List MemPlace}

theorem open_words (hv : Value.okWide Try.prog W .any base 37 v) (h : DataW.Trod enc Try.prog W 0 (fun _ => true) true 37 v d p) :
    ∃ (ao : Option Addr) (n cap : Nat) (f : Nat → Int), v = .slice ao n cap ∧ (ao = none → n = 0 ∧ cap = 0) ∧ n ≤ maxLen ∧ Sees W W.heap.size ao n f ∧ (∀ i, i < n → 0 ≤ f i ∧ f i ≤ 18446744073709551615) := by
  obtain ⟨fuel, hf⟩ := h
  have lt8 : ∀ x ∈ p, x.block < W.heap.size := DataW.trod_lt fuel _ _ _ hf
  obtain ⟨ao, n, cap, rfl⟩ := okWide_slice Try.underlying37 hv
  rcases open_ints Try.underlying37 Try.underlying46 ncells46 hf with ⟨hcs, hx⟩ | ⟨a, len, cap', zs, hcs, _, hlc, hm, hz, hx, hcell, hwz⟩
  · simp [Value.cells] at hcs
    obtain ⟨rfl, rfl, rfl⟩ := hcs
    exact ⟨none, 0, 0, fun _ => 0, rfl, fun _ => ⟨rfl, rfl⟩, Nat.zero_le _, fun j hj => absurd hj (Nat.not_lt_zero _), fun i hi => absurd hi (Nat.not_lt_zero _)⟩
  · simp [Value.cells] at hcs hz
    obtain ⟨rfl, rfl, rfl⟩ := hcs
    obtain ⟨rfl, rfl⟩ := Prod.mk.inj hx
    refine ⟨some a, n, cap, fun i => zs.getD i 0, rfl, (fun h => by cases h), by omega, fun j hj => ?_, fun i hi => ?_⟩
    · obtain ⟨b, off, rfl, hc⟩ := ints_at hcell (by omega)
      refine ⟨b, off, rfl, ?_, hc j (by omega)⟩
      have := lt8 (MemPlace.cell b off) (by simp only [MemPlace.row]; exact List.mem_map.2 ⟨0, List.mem_range.2 (by omega), rfl⟩)
      exact this
    · have hi' : i < zs.length := by omega
      have hmem : zs.getD i 0 ∈ zs := by simp [List.getD, hi']
      exact bounds_u64 (hwz _ hmem)

theorem open_nums (hv : Value.okWide Try.prog W .any base 31 v) (h : DataW.Trod enc Try.prog W 0 (fun _ => true) true 31 v d p) :
    ∃ (ao : Option Addr) (n cap : Nat) (s : Nat → Int), v = .slice ao n cap ∧ (ao = none → n = 0 ∧ cap = 0) ∧ n ≤ maxLen ∧ SeesI W W.heap.size ao n s := by
  obtain ⟨fuel, hf⟩ := h
  have lt8 : ∀ x ∈ p, x.block < W.heap.size := DataW.trod_lt fuel _ _ _ hf
  obtain ⟨ao, n, cap, rfl⟩ := okWide_slice Try.underlying31 hv
  rcases open_ints Try.underlying31 Try.underlying3 ncells3 hf with ⟨hcs, hx⟩ | ⟨a, len, cap', zs, hcs, _, hlc, hm, hz, hx, hcell, hwz⟩
  · simp [Value.cells] at hcs
    obtain ⟨rfl, rfl, rfl⟩ := hcs
    exact ⟨none, 0, 0, fun _ => 0, rfl, fun _ => ⟨rfl, rfl⟩, Nat.zero_le _, fun j hj => absurd hj (Nat.not_lt_zero _)⟩
  · simp [Value.cells] at hcs hz
    obtain ⟨rfl, rfl, rfl⟩ := hcs
    obtain ⟨rfl, rfl⟩ := Prod.mk.inj hx
    refine ⟨some a, n, cap, fun i => zs.getD i 0, rfl, (fun h => by cases h), by omega, fun j hj => ?_⟩
    obtain ⟨b, off, rfl, hc⟩ := ints_at hcell (by omega)
    refine ⟨b, off, rfl, ?_, hc j (by omega)⟩
    have := lt8 (MemPlace.cell b off) (by simp only [MemPlace.row]; exact List.mem_map.2 ⟨0, List.mem_range.2 (by omega), rfl⟩)
    exact this

theorem list1 {α : Type} {l : List α} (h : l.length = 1) : ∃ a, l = [a] := by
  match l, h with
  | [a], _ => exact ⟨a, rfl⟩
theorem list5 {α : Type} {l : List α} (h : l.length = 5) : ∃ a b c d e, l = [a, b, c, d, e] := by
  match l, h with
  | [a, b, c, d, e], _ => exact ⟨a, b, c, d, e, rfl⟩

theorem open_bools (hv : Value.okWide Try.prog W .any base 23 v) (h : DataW.Trod enc Try.prog W 0 (fun _ => true) true 23 v d p) :
    ∃ (ao : Option Addr) (n cap : Nat) (g : Nat → Bool), v = .slice ao n cap ∧ n ≤ maxLen ∧ SeesB W W.heap.size ao n g ∧ (n = 0 ∨ ∃ elems spare, d = .slice elems spare ∧ n ≤ elems.length) := by
  obtain ⟨fuel, hf⟩ := h
  have lt8 : ∀ x ∈ p, x.block < W.heap.size := DataW.trod_lt fuel _ _ _ hf
  obtain ⟨ao, n, cap, rfl⟩ := okWide_slice Try.underlying23 hv
  rcases open_slice Try.underlying23 hf with ⟨hcs, hx⟩ | ⟨a, len, cap', m, fu, D, Pl, hcs, _, hlc, hm, hmm, hx, hel⟩
  · simp [Value.cells] at hcs
    obtain ⟨rfl, rfl, rfl⟩ := hcs
    exact ⟨none, 0, 0, fun _ => false, rfl, Nat.zero_le _, fun j hj => absurd hj (Nat.not_lt_zero _), Or.inl rfl⟩
  · simp [Value.cells] at hcs hmm
    obtain ⟨rfl, rfl, rfl⟩ := hcs
    obtain ⟨rfl, rfl⟩ := Prod.mk.inj hx
    rw [ncells4] at hel lt8
    have each : ∀ i, i < m → ∃ s : Bool, W.cell? (a.add i) = some (.bool s) := by
      intro i hi
      obtain ⟨cs', h1, h2⟩ := hel i hi
      obtain ⟨_, hlen, hcell⟩ := World.cells?_some h1
      obtain ⟨c, rfl⟩ := list1 hlen
      obtain ⟨s, e5, _⟩ := DataW.trod_bool Try.underlying4 h2
      simp at e5
      subst e5
      have e := hcell 0 (by simp)
      rw [add_add] at e
      exact ⟨s, by simpa using e⟩
    obtain ⟨q, hq⟩ := choose_lt each
    refine ⟨some a, n, cap, q, rfl, by omega, fun j hj => ?_, Or.inr ⟨_, _, rfl, by simp⟩⟩
    obtain ⟨b, off, spot⟩ := a
    have c0 := hq 0 (by omega)
    have hspot : spot = none := by simpa [Addr.add] using World.cell?_spot c0
    subst hspot
    refine ⟨b, off, rfl, ?_, ?_⟩
    · have := lt8 (MemPlace.cell b off) (List.mem_append_left _ (by simp only [MemPlace.row]; exact List.mem_map.2 ⟨0, List.mem_range.2 (by omega), rfl⟩))
      exact this
    · have e := hq j (by omega)
      rw [Go.WideShapes.add_plain] at e
      exact e

set_option maxRecDepth 4000 in
/-- One job, from its five cells. -/
theorem open_job {n : Nat} {cs : List Value} {x : DataW H × List MemPlace} (hl : cs.length = 5) (h : DataW.trod enc Try.prog W 0 (fun _ => true) true n 48 cs = some x) :
    ∃ j : Jb, (∀ q, q < 5 → cs[q]? = some (j.cell q)) ∧ j.wf := by
  obtain ⟨c0, c1, c2, c3, c4, rfl⟩ := list5 hl
  obtain ⟨xs, m, _, hx, _, hl, hel⟩ := DataW.trod_struct Try.underlying48 h
  obtain ⟨y0, y1, y2, y3, y4, rfl⟩ := list5 hl
  have q0 := hel 0 _ rfl
  have q1 := hel 1 _ rfl
  have q2 := hel 2 _ rfl
  have q3 := hel 3 _ rfl
  have q4 := hel 4 _ rfl
  simp [ncells3, ncells46, Value.cells] at q0 q1 q2 q3 q4
  obtain ⟨h0, e0, _, b0⟩ := DataW.trod_int Try.underlying3 q0
  obtain ⟨h1, e1, _, b1⟩ := DataW.trod_int Try.underlying3 q1
  obtain ⟨h2, e2, _, b2⟩ := DataW.trod_int Try.underlying3 q2
  obtain ⟨h3, e3, _, b3⟩ := DataW.trod_int Try.underlying3 q3
  obtain ⟨h4, e4, _, b4⟩ := DataW.trod_int Try.underlying46 q4
  simp at e0 e1 e2 e3 e4
  subst e0 e1 e2 e3 e4
  refine ⟨⟨h0, h1, h2, h3, h4⟩, fun q hq => ?_, bounds_u64 b4⟩
  match q, hq with
  | 0, _ | 1, _ | 2, _ | 3, _ | 4, _ => rfl

instance : Inhabited Jb := ⟨⟨0, 0, 0, 0, 0⟩⟩

/-- One hand's jobs. -/
theorem open_jobs {fuel : Nat} {cs : List Value} {x : DataW H × List MemPlace} (hl : cs.length = 1) (hf : DataW.trod enc Try.prog W 0 (fun _ => true) true fuel 49 cs = some x) :
    ∃ ao n cap, cs = [.slice ao n cap] ∧ ∃ j : Nat → Jb, SeesJ W W.heap.size ao n j ∧ ∀ i, i < n → (j i).wf := by
  have lt8 := DataW.trod_lt fuel _ _ _ hf
  rcases open_slice Try.underlying49 hf with ⟨hcs, hx⟩ | ⟨a, len, cap', m, fu, D, Pl, hcs, _, hlc, hm, hmm, hx, hel⟩
  · exact ⟨none, 0, 0, hcs, fun _ => default, fun j hj => absurd hj (Nat.not_lt_zero _), fun i hi => absurd hi (Nat.not_lt_zero _)⟩
  · subst hx
    simp only [ncells51] at hel lt8
    have each : ∀ i, i < m → ∃ s : Jb, (∀ j, j < 5 → W.cell? (a.add (i * 5 + j)) = some (s.cell j)) ∧ s.wf := by
      intro i hi
      obtain ⟨cs', h1, h2⟩ := hel i hi
      obtain ⟨_, hlen, hcell⟩ := World.cells?_some h1
      obtain ⟨s, hs, hwf⟩ := open_job hlen h2
      refine ⟨s, fun j hj => ?_, hwf⟩
      have e := hcell j (by omega)
      rw [add_add] at e
      rw [e]
      exact hs j hj
    obtain ⟨q, hq⟩ := choose_lt each
    simp only [Bool.true_or, if_true] at hmm
    refine ⟨some a, len, cap', hcs, q, fun j hj => ?_, fun i hi => (hq i (by omega)).2⟩
    have hjm : j < m := by omega
    obtain ⟨b, off, spot⟩ := a
    have c0 := (hq 0 (by omega)).1 0 (by omega)
    have hspot : spot = none := by simpa [Addr.add] using World.cell?_spot c0
    subst hspot
    refine ⟨b, off, rfl, ?_, fun i hi => ?_⟩
    · have := lt8 (MemPlace.cell b off) (List.mem_append_left _ (by simp only [MemPlace.row]; exact List.mem_map.2 ⟨0, List.mem_range.2 (by omega), rfl⟩))
      exact this
    · have e := (hq j hjm).1 i hi
      rw [Go.WideShapes.add_plain] at e
      rw [Nat.add_assoc]
      exact e

theorem open_hands (hv : Value.okWide Try.prog W .any base 50 v) (h : DataW.Trod enc Try.prog W 0 (fun _ => true) true 50 v d p) :
    ∃ (ao : Option Addr) (n cap : Nat) (jn : Nat → Nat) (jb : Nat → Nat → Jb), v = .slice ao n cap ∧ (ao = none → n = 0 ∧ cap = 0) ∧ n ≤ maxLen ∧ SeesH W W.heap.size ao n jn jb ∧ ∀ h, h < n → ∀ j, j < jn h → (jb h j).wf := by
  obtain ⟨fuel, hf⟩ := h
  have lt8 : ∀ x ∈ p, x.block < W.heap.size := DataW.trod_lt fuel _ _ _ hf
  obtain ⟨ao, n, cap, rfl⟩ := okWide_slice Try.underlying50 hv
  rcases open_slice Try.underlying50 hf with ⟨hcs, hx⟩ | ⟨a, len, cap', m, fu, D, Pl, hcs, _, hlc, hm, hmm, hx, hel⟩
  · simp [Value.cells] at hcs
    obtain ⟨rfl, rfl, rfl⟩ := hcs
    exact ⟨none, 0, 0, fun _ => 0, fun _ _ => default, rfl, fun _ => ⟨rfl, rfl⟩, Nat.zero_le _, fun j hj => absurd hj (Nat.not_lt_zero _), fun j hj => absurd hj (Nat.not_lt_zero _)⟩
  · simp [Value.cells] at hcs hmm
    obtain ⟨rfl, rfl, rfl⟩ := hcs
    obtain ⟨rfl, rfl⟩ := Prod.mk.inj hx
    rw [ncells49] at hel lt8
    have each : ∀ i, i < m → ∃ y : Nat × (Nat → Jb), (∃ ao' c', W.cell? (a.add i) = some (.slice ao' y.1 c') ∧ SeesJ W W.heap.size ao' y.1 y.2) ∧ ∀ k, k < y.1 → (y.2 k).wf := by
      intro i hi
      obtain ⟨cs', h1, h2⟩ := hel i hi
      obtain ⟨_, hlen, hcell⟩ := World.cells?_some h1
      obtain ⟨ao', n', c', rfl, j, hj, hw⟩ := open_jobs hlen h2
      have e := hcell 0 (by simp)
      rw [add_add] at e
      exact ⟨(n', j), ⟨ao', c', by simpa using e, hj⟩, hw⟩
    obtain ⟨q, hq⟩ := choose_lt each
    refine ⟨some a, n, cap, fun i => (q i).1, fun i => (q i).2, rfl, (fun h => by cases h), by omega, fun j hj => ?_, fun i hi => (hq i (by omega)).2⟩
    obtain ⟨⟨ao0, c0', e0, _⟩, _⟩ := hq 0 (by omega)
    obtain ⟨⟨ao', c', e, hs⟩, _⟩ := hq j (by omega)
    obtain ⟨b, off, spot⟩ := a
    have hspot : spot = none := by simpa [Addr.add] using World.cell?_spot e0
    subst hspot
    refine ⟨b, off, ao', c', rfl, ?_, ?_, hs⟩
    · have := lt8 (MemPlace.cell b off) (List.mem_append_left _ (by simp only [MemPlace.row]; exact List.mem_map.2 ⟨0, List.mem_range.2 (by omega), rfl⟩))
      exact this
    · rw [Go.WideShapes.add_plain] at e
      exact e
end
end Go.Proofs.Ytgaafdfekgnccaa
