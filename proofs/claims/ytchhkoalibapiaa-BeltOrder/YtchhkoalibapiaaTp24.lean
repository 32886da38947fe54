/-
  Lemmas: OpenR.
-/
import Derived.Test.YtchhkoalibapiaaTp23
import Derived.Test.YtchhkoalibapiaaTp07
/-
  A Run that came in, opened: its shape, words, hands, schedule and bound.
-/
namespace Go.Proofs.Ytchhkoalibapiaa
open Go.ChangeShapes Go.WideShapes Go.ChangeAt Go.RowKit Go.Deep
set_option linter.unusedVariables false
set_option linter.unusedSimpArgs false
set_option maxRecDepth 100000

section
variable {H : Type} {enc : TypeId × Value → H} {W : World} {base : Nat} {v : Value} {d : DataW H} {p : List MemPlace} {fuel : Nat} {cs : List Value} {x : DataW H × List MemPlace}

theorem words_t (hf : DataW.trod enc Try.prog W 0 (fun _ => true) true fuel 24 cs = some x) :
    ∃ (ao : Option Addr) (n cap : Nat) (f : Nat → Int), cs = [.slice ao n cap] ∧ (ao = none → n = 0 ∧ cap = 0) ∧ n ≤ maxLen ∧ Sees W W.heap.size ao n f ∧ (∀ i, i < n → 0 ≤ f i ∧ f i ≤ 18446744073709551615) := by
  have lt8 := DataW.trod_lt fuel _ _ _ hf
  rcases open_ints Try.underlying24 Try.underlying55 ncells46 hf with ⟨hcs, hx⟩ | ⟨a, n, cap, zs, hcs, _, hlc, hm, hz, hx, hcell, hwz⟩
  · exact ⟨none, 0, 0, fun _ => 0, hcs, fun _ => ⟨rfl, rfl⟩, Nat.zero_le _, fun j hj => absurd hj (Nat.not_lt_zero _), fun i hi => absurd hi (Nat.not_lt_zero _)⟩
  · simp at hz
    subst hx
    refine ⟨some a, n, cap, fun i => zs.getD i 0, hcs, (fun h => by cases h), by omega, fun j hj => ?_, fun i hi => ?_⟩
    · obtain ⟨b, off, rfl, hc⟩ := ints_at hcell (by omega)
      refine ⟨b, off, rfl, ?_, hc j (by omega)⟩
      have := lt8 (MemPlace.cell b off) (by simp only [MemPlace.row]; exact List.mem_map.2 ⟨0, List.mem_range.2 (by omega), rfl⟩)
      exact this
    · have hi' : i < zs.length := by omega
      have hmem : zs.getD i 0 ∈ zs := by simp [List.getD, hi']
      exact bounds_u64 (hwz _ hmem)

theorem nums_t (hf : DataW.trod enc Try.prog W 0 (fun _ => true) true fuel 26 cs = some x) :
    ∃ (ao : Option Addr) (n cap : Nat) (s : Nat → Int), cs = [.slice ao n cap] ∧ n ≤ maxLen ∧ SeesI W W.heap.size ao n s := by
  have lt8 := DataW.trod_lt fuel _ _ _ hf
  rcases open_ints Try.underlying26 Try.underlying3 ncells3 hf with ⟨hcs, hx⟩ | ⟨a, n, cap, zs, hcs, _, hlc, hm, hz, hx, hcell, hwz⟩
  · exact ⟨none, 0, 0, fun _ => 0, hcs, Nat.zero_le _, fun j hj => absurd hj (Nat.not_lt_zero _)⟩
  · simp at hz
    subst hx
    refine ⟨some a, n, cap, fun i => zs.getD i 0, hcs, by omega, fun j hj => ?_⟩
    obtain ⟨b, off, rfl, hc⟩ := ints_at hcell (by omega)
    refine ⟨b, off, rfl, ?_, hc j (by omega)⟩
    have := lt8 (MemPlace.cell b off) (by simp only [MemPlace.row]; exact List.mem_map.2 ⟨0, List.mem_range.2 (by omega), rfl⟩)
    exact this

theorem hands_t (hf : DataW.trod enc Try.prog W 0 (fun _ => true) true fuel 25 cs = some x) :
    ∃ (ao : Option Addr) (n cap : Nat) (jn : Nat → Nat) (jb : Nat → Nat → Jb), cs = [.slice ao n cap] ∧ n ≤ maxLen ∧ SeesH W W.heap.size ao n jn jb ∧ ∀ h, h < n → ∀ j, j < jn h → (jb h j).wf := by
  have lt8 := DataW.trod_lt fuel _ _ _ hf
  rcases open_slice Try.underlying25 hf with ⟨hcs, hx⟩ | ⟨a, n, cap, m, fu, D, Pl, hcs, _, hlc, hm, hmm, hx, hel⟩
  · exact ⟨none, 0, 0, fun _ => 0, fun _ _ => default, hcs, Nat.zero_le _, fun j hj => absurd hj (Nat.not_lt_zero _), fun j hj => absurd hj (Nat.not_lt_zero _)⟩
  · simp at hmm
    subst hx
    rw [ncells49] at hel lt8
    have each : ∀ i, i < m → ∃ y : Nat × (Nat → Jb), (∃ ao' c', W.cell? (a.add i) = some (.slice ao' y.1 c') ∧ SeesJ W W.heap.size ao' y.1 y.2) ∧ ∀ k, k < y.1 → (y.2 k).wf := by
      intro i hi
      obtain ⟨cs', h1, h2⟩ := hel i hi
      obtain ⟨_, hlen, hcell⟩ := World.cells?_some h1
      obtain ⟨ao', n', c', rfl, j, hj, hw⟩ := open_jobs hlen h2
      have e := hcell 0 (by simp)
      rw [add_add] at e
      exact ⟨(n', j), ⟨ao', c', by simpa using e, hj⟩, hw⟩
    obtain ⟨q, hq⟩ := choose_lt each
    refine ⟨some a, n, cap, fun i => (q i).1, fun i => (q i).2, hcs, by omega, fun j hj => ?_, fun i hi => (hq i (by omega)).2⟩
    obtain ⟨⟨ao0, c0', e0, _⟩, _⟩ := hq 0 (by omega)
    obtain ⟨⟨ao', c', e, hs⟩, _⟩ := hq j (by omega)
    obtain ⟨b, off, spot⟩ := a
    have hspot : spot = none := by simpa [Addr.add] using World.cell?_spot e0
    subst hspot
    refine ⟨b, off, ao', c', rfl, ?_, ?_, hs⟩
    · have := lt8 (MemPlace.cell b off) (List.mem_append_left _ (by simp only [MemPlace.row]; exact List.mem_map.2 ⟨0, List.mem_range.2 (by omega), rfl⟩))
      exact this
    · rw [Go.WideShapes.add_plain] at e
      exact e

theorem list6 {α : Type} {l : List α} (h : l.length = 6) : ∃ a b c d e f, l = [a, b, c, d, e, f] := by
  match l, h with
  | [a, b, c, d, e, f], _ => exact ⟨a, b, c, d, e, f, rfl⟩
theorem list10 {α : Type} {l : List α} (h : l.length = 10) : ∃ a b c d e f g i j k, l = [a, b, c, d, e, f, g, i, j, k] := by
  match l, h with
  | [a, b, c, d, e, f, g, i, j, k], _ => exact ⟨a, b, c, d, e, f, g, i, j, k, rfl⟩
theorem list5' {α : Type} {l : List α} (h : l.length = 5) : ∃ a b c d e, l = [a, b, c, d, e] := by
  match l, h with
  | [a, b, c, d, e], _ => exact ⟨a, b, c, d, e, rfl⟩

theorem ncellsSh : Try.prog.cellsOf 23 = 6 := by kernel_rfl
theorem ncellsW : Try.prog.cellsOf 24 = 1 := by kernel_rfl
theorem ncellsH : Try.prog.cellsOf 25 = 1 := by kernel_rfl
theorem ncellsI : Try.prog.cellsOf 26 = 1 := by kernel_rfl

set_option maxRecDepth 4000 in
theorem shape_t (hl : cs.length = 6) (hf : DataW.trod enc Try.prog W 0 (fun _ => true) true fuel 23 cs = some x) :
    ∃ sh : Shp, cs = [.int .i64 sh.a, .int .i64 sh.b, .int .i64 sh.c, .int .i64 sh.d, .int .i64 sh.e, .int .i64 sh.f] := by
  obtain ⟨c0, c1, c2, c3, c4, c5, rfl⟩ := list6 hl
  obtain ⟨xs, m, _, hx, _, hl, hel⟩ := DataW.trod_struct Try.underlying23 hf
  obtain ⟨y0, y1, y2, y3, y4, y5, rfl⟩ := list6 hl
  have q0 := hel 0 _ rfl
  have q1 := hel 1 _ rfl
  have q2 := hel 2 _ rfl
  have q3 := hel 3 _ rfl
  have q4 := hel 4 _ rfl
  have q5 := hel 5 _ rfl
  simp [ncells3, Value.cells] at q0 q1 q2 q3 q4 q5
  obtain ⟨h0, e0, _, _⟩ := DataW.trod_int Try.underlying3 q0
  obtain ⟨h1, e1, _, _⟩ := DataW.trod_int Try.underlying3 q1
  obtain ⟨h2, e2, _, _⟩ := DataW.trod_int Try.underlying3 q2
  obtain ⟨h3, e3, _, _⟩ := DataW.trod_int Try.underlying3 q3
  obtain ⟨h4, e4, _, _⟩ := DataW.trod_int Try.underlying3 q4
  obtain ⟨h5, e5, _, _⟩ := DataW.trod_int Try.underlying3 q5
  simp at e0 e1 e2 e3 e4 e5
  subst e0 e1 e2 e3 e4 e5
  exact ⟨⟨h0, h1, h2, h3, h4, h5⟩, rfl⟩
end
end Go.Proofs.Ytchhkoalibapiaa
