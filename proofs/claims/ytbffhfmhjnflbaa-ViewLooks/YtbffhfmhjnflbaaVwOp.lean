/-
  View: the arguments opened: words, steps; what they weigh.
-/
import Derived.Test.YtbffhfmhjnflbaaLift
import Derived.Test.YtbffhfmhjnflbaaVwU
import Derived.SizedLaws
import Derived.Deep.Slices
namespace Go.Proofs.Ytbffhfmhjnflbaa
open Go.ChangeShapes Go.WideShapes Go.ChangeAt Go.RowKit Go.Deep
set_option linter.unusedVariables false
set_option linter.unusedSimpArgs false
set_option maxRecDepth 100000
namespace Vw
theorem ncells46 : Try.prog.cellsOf 27 = 1 := by kernel_rfl
theorem ncells3 : Try.prog.cellsOf 3 = 1 := by kernel_rfl
theorem ncells4 : Try.prog.cellsOf 4 = 1 := by kernel_rfl
theorem ncellsP : Try.prog.cellsOf 47 = 6 := by kernel_rfl
theorem bytesU : Try.prog.bytesOf 27 = 8 := by kernel_rfl
theorem bytesP : Try.prog.bytesOf 47 = 48 := by kernel_rfl
section
variable {H : Type} {enc : TypeId × Value → H} {W : World} {base : Nat} {v : Value} {d : DataW H} {p : List MemPlace}
theorem open_words (hv : Value.okWide Try.prog W .any base 24 v) (h : DataW.Trod enc Try.prog W 0 (fun _ => true) true 24 v d p) :
    ∃ (ao : Option Addr) (n cap : Nat) (f : Nat → Int), v = .slice ao n cap ∧ (ao = none → n = 0 ∧ cap = 0) ∧ n ≤ maxLen ∧ Sees W W.heap.size ao n f ∧ (∀ i, i < n → 0 ≤ f i ∧ f i ≤ 18446744073709551615) := by
  obtain ⟨fuel, hf⟩ := h
  have lt8 : ∀ x ∈ p, x.block < W.heap.size := DataW.trod_lt fuel _ _ _ hf
  obtain ⟨ao, n, cap, rfl⟩ := okWide_slice Try.underlying24 hv
  rcases open_ints Try.underlying24 Try.underlying27 ncells46 hf with ⟨hcs, hx⟩ | ⟨a, len, cap', zs, hcs, _, hlc, hm, hz, hx, hcell, hwz⟩
  · simp [Value.cells] at hcs
    obtain ⟨rfl, rfl, rfl⟩ := hcs
    exact ⟨none, 0, 0, fun _ => 0, rfl, fun _ => ⟨rfl, rfl⟩, Nat.zero_le _, fun j hj => absurd hj (Nat.not_lt_zero _), fun i hi => absurd hi (Nat.not_lt_zero _)⟩
  · simp [Value.cells] at hcs hz
    obtain ⟨rfl, rfl, rfl⟩ := hcs
    obtain ⟨rfl, rfl⟩ := Prod.mk.inj hx
    refine ⟨some a, n, cap, fun i => zs.getD i 0, rfl, (fun h => by cases h), by omega, fun j hj => ?_, fun i hi => ?_⟩
    · obtain ⟨b, off, rfl, hc⟩ := ints_at hcell (by omega)
      refine ⟨b, off, rfl, ?_, hc j (by omega)⟩
      have := lt8 (MemPlace.cell b off) (by simp only [MemPlace.row]; exact List.mem_map.2 ⟨0, List.mem_range.2 (by omega), rfl⟩)
      exact this
    · have hi' : i < zs.length := by omega
      have hmem : zs.getD i 0 ∈ zs := by simp [List.getD, hi']
      exact bounds_u64 (hwz _ hmem)


end
section
variable {H : Type} {enc : TypeId × Value → H} {W : World} {fuel : Nat} {cs : List Value} {x : DataW H × List MemPlace} {B : Nat}
theorem mem_all {P : Program} {e : TypeId} : ∀ {l : List (DataW H)} {d : DataW H}, d ∈ l → ∀ q ∈ d.weights P e, q ∈ DataW.weightsAll P e l
  | _ :: _, _, .head _, q, hq => by rw [DataW.weightsAll]; exact List.mem_append_left _ hq
  | _ :: _, _, .tail _ h, q, hq => by rw [DataW.weightsAll]; exact List.mem_append_right _ (mem_all h q hq)

theorem slice_weight {t e : TypeId} (ht : Try.prog.underlying t = some (.slice e)) (hf : DataW.trod enc Try.prog W 0 (fun _ => true) true fuel t cs = some x) {ao : Option Addr} {n cap : Nat} (hcs : cs = [.slice ao n cap]) (hw : ∀ q ∈ x.1.weights Try.prog t, q ≤ B) : n * Try.prog.bytesOf e ≤ B ∧ (ao = none → n = 0 ∧ cap = 0) := by
  rcases open_slice ht hf with ⟨h1, rfl⟩ | ⟨a, len, cap', m, fu, D, Pl, h1, _, hlc, hm, hmm, rfl, hel⟩
  · rw [hcs] at h1
    cases h1
    exact ⟨by simp, fun _ => ⟨rfl, rfl⟩⟩
  · rw [hcs] at h1
    cases h1
    refine ⟨?_, fun h => by cases h⟩
    have := hw ((n + (m - n)) * Try.prog.bytesOf e) (by simp [DataW.weights, ht])
    exact Nat.le_trans (Nat.mul_le_mul_right _ (Nat.le_add_right _ _)) this


end
theorem len_cap {H : Type} {enc : TypeId × Value → H} {W : World} {fuel : Nat} {x : DataW H × List MemPlace} {t e : TypeId} {ao : Option Addr} {n cap : Nat} (ht : Try.prog.underlying t = some (.slice e)) (hf : DataW.trod enc Try.prog W 0 (fun _ => true) true fuel t [.slice ao n cap] = some x) : n ≤ cap := by
  rcases open_slice ht hf with ⟨h1, _⟩ | ⟨a, len, cap', m, fu, D, Pl, h1, _, hlc, hm, hmm, _, hel⟩
  · cases h1
    exact Nat.le_refl _
  · cases h1
    first | exact hlc | exact hlc.1 | omega


theorem list6 {α : Type} {l : List α} (h : l.length = 6) : ∃ a b c d e f, l = [a, b, c, d, e, f] := by
  match l, h with
  | [a, b, c, d, e, f], _ => exact ⟨a, b, c, d, e, f, rfl⟩
set_option maxRecDepth 4000 in
theorem open_step {H : Type} {enc : TypeId × Value → H} {W : World} {n : Nat} {cs : List Value} {x : DataW H × List MemPlace}
    (hl : cs.length = 6) (h : DataW.trod enc Try.prog W 0 (fun _ => true) true n 47 cs = some x) :
    ∃ s : Sp, cs = s.cells := by
  obtain ⟨c0, c1, c2, c3, c4, c5, rfl⟩ := list6 hl
  obtain ⟨xs, m, _, hx, _, hl, hel⟩ := DataW.trod_struct Try.underlying47 h
  obtain ⟨y0, y1, y2, y3, y4, y5, rfl⟩ := list6 hl
  have q0 := hel 0 _ rfl
  have q1 := hel 1 _ rfl
  have q2 := hel 2 _ rfl
  have q3 := hel 3 _ rfl
  have q4 := hel 4 _ rfl
  have q5 := hel 5 _ rfl
  simp [ncells4, ncells3, ncells46, Value.cells] at q0 q1 q2 q3 q4 q5
  obtain ⟨h0, e0, _, b0⟩ := DataW.trod_int Try.underlying3 q0
  obtain ⟨h1, e1, _, b1⟩ := DataW.trod_int Try.underlying3 q1
  obtain ⟨h2, e2, _, b2⟩ := DataW.trod_int Try.underlying3 q2
  obtain ⟨h3, e3, _, b3⟩ := DataW.trod_int Try.underlying27 q3
  obtain ⟨h4, e4, _, b4⟩ := DataW.trod_int Try.underlying27 q4
  obtain ⟨h5, e5, _⟩ := DataW.trod_bool Try.underlying4 q5
  simp at e0 e1 e2 e3 e4 e5
  subst e0 e1 e2 e3 e4 e5
  exact ⟨⟨h0, h1, h2, h3, h4, h5⟩, rfl⟩
theorem Sp.cells_get (s : Sp) {j : Nat} (h : j < 6) : s.cells[j]? = some (s.cell j) := by
  match j, h with
  | 0, _ | 1, _ | 2, _ | 3, _ | 4, _ | 5, _ => rfl
theorem open_steps {H : Type} {enc : TypeId × Value → H} {W : World} {base : Nat} {v : Value} {d : DataW H} {p : List MemPlace}
    (hv : Value.okWide Try.prog W .any base 45 v) (h : DataW.Trod enc Try.prog W 0 (fun _ => true) true 45 v d p) :
    ∃ (ao : Option Addr) (n cap : Nat) (a : Nat → Sp), v = .slice ao n cap ∧ (ao = none → n = 0 ∧ cap = 0) ∧ n ≤ cap ∧ cap ≤ maxLen ∧ SeesP W ao n a := by
  obtain ⟨fuel, hf⟩ := h
  have lt8 : ∀ x ∈ p, x.block < W.heap.size := DataW.trod_lt fuel _ _ _ hf
  obtain ⟨ao, n, cap, rfl⟩ := okWide_slice Try.underlying45 hv
  rcases open_slice Try.underlying45 hf with ⟨hcs, hx⟩ | ⟨a, len, cap', m, fu, D, Pl, hcs, _, hlc, hm, hmm, hx, hel⟩
  · simp [Value.cells] at hcs
    obtain ⟨rfl, rfl, rfl⟩ := hcs
    exact ⟨none, 0, 0, fun _ => ⟨0, 0, 0, 0, 0, false⟩, rfl, fun _ => ⟨rfl, rfl⟩, Nat.le_refl _, Nat.zero_le _, fun j hj => absurd hj (Nat.not_lt_zero _)⟩
  · simp [Value.cells] at hcs hmm
    obtain ⟨rfl, rfl, rfl⟩ := hcs
    obtain ⟨rfl, rfl⟩ := Prod.mk.inj hx
    rw [ncellsP] at hel lt8
    have each : ∀ i, i < m → ∃ s : Sp, (∀ j, j < 6 → W.cell? (a.add (i * 6 + j)) = some (s.cell j)) := by
      intro i hi
      obtain ⟨cs', h1, h2⟩ := hel i hi
      obtain ⟨_, hlen, hcell⟩ := World.cells?_some h1
      obtain ⟨s, rfl⟩ := open_step hlen h2
      refine ⟨s, fun j hj => ?_⟩
      have e := hcell j (by omega)
      rw [add_add] at e
      rw [e]
      exact Sp.cells_get s hj
    have : Inhabited Sp := ⟨⟨0, 0, 0, 0, 0, false⟩⟩
    obtain ⟨q, hq⟩ := choose_lt each
    refine ⟨some a, n, cap, q, rfl, (fun h => by cases h), by first | exact hlc | omega, by first | exact hm | omega, fun j hj => ?_⟩
    obtain ⟨b, off, spot⟩ := a
    have c0 := hq 0 (by omega) 0 (by omega)
    have hspot : spot = none := by simpa [Addr.add] using World.cell?_spot c0
    subst hspot
    refine ⟨b, off, rfl, ?_, fun i hi => ?_⟩
    · have := lt8 (MemPlace.cell b off) (List.mem_append_left _ (by simp only [MemPlace.row]; exact List.mem_map.2 ⟨0, List.mem_range.2 (by omega), rfl⟩))
      exact this
    · have e := hq j (by omega) i hi
      rw [Go.WideShapes.add_plain] at e
      rw [Nat.add_assoc]
      exact e
end Vw
end Go.Proofs.Ytbffhfmhjnflbaa
