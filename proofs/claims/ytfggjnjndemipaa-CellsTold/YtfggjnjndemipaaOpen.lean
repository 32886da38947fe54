/-
  The arguments opened: a row of words, a row of acts.
-/
import Derived.Test.YtfggjnjndemipaaLift
import Derived.Test.YtfggjnjndemipaaRScr
import Derived.SizedLaws
import Derived.Deep.Slices
namespace Go.Proofs.Ytfggjnjndemipaa
open Go.ChangeShapes Go.WideShapes Go.ChangeAt Go.RowKit Go.Deep
set_option linter.unusedVariables false
set_option linter.unusedSimpArgs false

theorem cells36 : Try.prog.cellsOf 36 = 1 := by kernel_rfl
theorem cells38 : Try.prog.cellsOf 38 = 6 := by kernel_rfl
theorem cells3 : Try.prog.cellsOf 3 = 1 := by kernel_rfl
theorem cells4 : Try.prog.cellsOf 4 = 1 := by kernel_rfl

theorem open_words {H : Type} {enc : TypeId × Value → H} {W : World} {base : Nat} {v : Value} {d : DataW H} {p : List MemPlace}
    (hv : Value.okWide Try.prog W .any base 22 v) (h : DataW.Trod enc Try.prog W 0 (fun _ => true) true 22 v d p) :
    ∃ (ao : Option Addr) (n cap : Nat) (f : Nat → Int), v = .slice ao n cap ∧ (ao = none → n = 0 ∧ cap = 0) ∧ n ≤ maxLen ∧ Sees W W.heap.size ao n f ∧ (∀ i, i < n → 0 ≤ f i ∧ f i ≤ 18446744073709551615) ∧
      (n = 0 ∨ ∃ elems spare, d = .slice elems spare ∧ n ≤ elems.length) := by
  obtain ⟨fuel, hf⟩ := h
  have lt8 : ∀ x ∈ p, x.block < W.heap.size := DataW.trod_lt fuel _ _ _ hf
  obtain ⟨ao, n, cap, rfl⟩ := okWide_slice Try.underlying22 hv
  rcases open_ints Try.underlying22 Try.underlying36 cells36 hf with ⟨hcs, hx⟩ | ⟨a, len, cap', zs, hcs, _, hlc, hm, hz, hx, hcell, hwz⟩
  · simp [Value.cells] at hcs
    obtain ⟨rfl, rfl, rfl⟩ := hcs
    exact ⟨none, 0, 0, fun _ => 0, rfl, fun _ => ⟨rfl, rfl⟩, Nat.zero_le _, fun j hj => absurd hj (Nat.not_lt_zero _), fun i hi => absurd hi (Nat.not_lt_zero _), Or.inl rfl⟩
  · simp [Value.cells] at hcs hz
    obtain ⟨rfl, rfl, rfl⟩ := hcs
    obtain ⟨rfl, rfl⟩ := Prod.mk.inj hx
    refine ⟨some a, n, cap, fun i => zs.getD i 0, rfl, (fun h => by cases h), by omega, fun j hj => ?_, fun i hi => ?_, Or.inr ⟨_, _, rfl, by simp [lits]; omega⟩⟩
    · obtain ⟨b, off, rfl, hc⟩ := ints_at hcell (by omega)
      refine ⟨b, off, rfl, ?_, hc j (by omega)⟩
      have := lt8 (MemPlace.cell b off) (by simp only [MemPlace.row]; exact List.mem_map.2 ⟨0, List.mem_range.2 (by omega), rfl⟩)
      exact this
    · have hi' : i < zs.length := by omega
      have hmem : zs.getD i 0 ∈ zs := by simp [List.getD, hi']
      exact bounds_u64 (hwz _ hmem)

theorem list6 {α : Type} {l : List α} (h : l.length = 6) : ∃ a b c d e f, l = [a, b, c, d, e, f] := by
  match l, h with
  | [a, b, c, d, e, f], _ => exact ⟨a, b, c, d, e, f, rfl⟩

set_option maxRecDepth 4000 in
/-- One step, from its six cells. -/
theorem open_step {H : Type} {enc : TypeId × Value → H} {W : World} {n : Nat} {cs : List Value} {x : DataW H × List MemPlace}
    (hl : cs.length = 6) (h : DataW.trod enc Try.prog W 0 (fun _ => true) true n 38 cs = some x) :
    ∃ s : Stp, cs = s.cells ∧ s.wf := by
  obtain ⟨c0, c1, c2, c3, c4, c5, rfl⟩ := list6 hl
  obtain ⟨xs, m, _, hx, _, hl, hel⟩ := DataW.trod_struct Try.underlying38 h
  obtain ⟨y0, y1, y2, y3, y4, y5, rfl⟩ := list6 hl
  have q0 := hel 0 _ rfl
  have q1 := hel 1 _ rfl
  have q2 := hel 2 _ rfl
  have q3 := hel 3 _ rfl
  have q4 := hel 4 _ rfl
  have q5 := hel 5 _ rfl
  simp [cells4, cells3, cells36, Value.cells] at q0 q1 q2 q3 q4 q5
  obtain ⟨h0, e0, _, b0⟩ := DataW.trod_int Try.underlying3 q0
  obtain ⟨h1, e1, _, b1⟩ := DataW.trod_int Try.underlying3 q1
  obtain ⟨h2, e2, _, b2⟩ := DataW.trod_int Try.underlying3 q2
  obtain ⟨h3, e3, _, b3⟩ := DataW.trod_int Try.underlying36 q3
  obtain ⟨h4, e4, _, b4⟩ := DataW.trod_int Try.underlying36 q4
  obtain ⟨h5, e5, _⟩ := DataW.trod_bool Try.underlying4 q5
  simp at e0 e1 e2 e3 e4 e5
  subst e0 e1 e2 e3 e4 e5
  exact ⟨⟨h0, h1, h2, h3, h4, h5⟩, rfl, bounds_u64 b3, bounds_u64 b4⟩

theorem open_acts {H : Type} {enc : TypeId × Value → H} {W : World} {base : Nat} {v : Value} {d : DataW H} {p : List MemPlace}
    (hv : Value.okWide Try.prog W .any base 23 v) (h : DataW.Trod enc Try.prog W 0 (fun _ => true) true 23 v d p) :
    ∃ (ao : Option Addr) (n cap : Nat) (a : Nat → Stp), v = .slice ao n cap ∧ (ao = none → n = 0 ∧ cap = 0) ∧ n ≤ maxLen ∧ SeesS W W.heap.size ao n a ∧ (∀ i, i < n → (a i).wf) ∧
      (n = 0 ∨ ∃ elems spare, d = .slice elems spare ∧ n ≤ elems.length) := by
  obtain ⟨fuel, hf⟩ := h
  have lt8 : ∀ x ∈ p, x.block < W.heap.size := DataW.trod_lt fuel _ _ _ hf
  obtain ⟨ao, n, cap, rfl⟩ := okWide_slice Try.underlying23 hv
  rcases open_slice Try.underlying23 hf with ⟨hcs, hx⟩ | ⟨a, len, cap', m, fu, D, Pl, hcs, _, hlc, hm, hmm, hx, hel⟩
  · simp [Value.cells] at hcs
    obtain ⟨rfl, rfl, rfl⟩ := hcs
    exact ⟨none, 0, 0, fun _ => default, rfl, fun _ => ⟨rfl, rfl⟩, Nat.zero_le _, fun j hj => absurd hj (Nat.not_lt_zero _), fun i hi => absurd hi (Nat.not_lt_zero _), Or.inl rfl⟩
  · simp [Value.cells] at hcs hmm
    obtain ⟨rfl, rfl, rfl⟩ := hcs
    obtain ⟨rfl, rfl⟩ := Prod.mk.inj hx
    rw [cells38] at hel lt8
    have each : ∀ i, i < m → ∃ s : Stp, (∀ j, j < 6 → W.cell? (a.add (i * 6 + j)) = some (s.cell j)) ∧ s.wf := by
      intro i hi
      obtain ⟨cs', h1, h2⟩ := hel i hi
      obtain ⟨_, hlen, hcell⟩ := World.cells?_some h1
      obtain ⟨s, rfl, hwf⟩ := open_step hlen h2
      refine ⟨s, fun j hj => ?_, hwf⟩
      have e := hcell j (by omega)
      rw [add_add] at e
      rw [e]
      exact Stp.cells_get s j hj
    obtain ⟨q, hq⟩ := choose_lt each
    refine ⟨some a, n, cap, q, rfl, (fun h => by cases h), by omega, fun j hj => ?_, fun i hi => (hq i (by omega)).2, Or.inr ⟨_, _, rfl, by simp⟩⟩
    obtain ⟨b, off, spot⟩ := a
    have c0 := (hq 0 (by omega)).1 0 (by omega)
    have hspot : spot = none := by simpa [Addr.add] using World.cell?_spot c0
    subst hspot
    refine ⟨b, off, rfl, ?_, fun i hi => ?_⟩
    · have := lt8 (MemPlace.cell b off) (List.mem_append_left _ (by simp only [MemPlace.row]; exact List.mem_map.2 ⟨0, List.mem_range.2 (by omega), rfl⟩))
      exact this
    · have e := (hq j (by omega)).1 i hi
      rw [Go.WideShapes.add_plain] at e
      rw [Nat.add_assoc]
      exact e
end Go.Proofs.Ytfggjnjndemipaa
