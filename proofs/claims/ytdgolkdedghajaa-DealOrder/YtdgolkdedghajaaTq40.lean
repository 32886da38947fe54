/-
  Lemmas: L8Open.
-/
import Derived.Test.YtdgolkdedghajaaTq20
/-
  A Run that came in, opened, with what its slices weigh.
-/
namespace Go.Proofs.Ytdgolkdedghajaa
open Go.ChangeShapes Go.WideShapes Go.ChangeAt Go.RowKit Go.Deep
set_option linter.unusedVariables false
set_option linter.unusedSimpArgs false
set_option maxRecDepth 100000
namespace L8

section
variable {H : Type} {enc : TypeId × Value → H} {W : World} {fuel : Nat} {cs : List Value} {x : DataW H × List MemPlace} {B : Nat}

theorem mem_all {P : Program} {e : TypeId} : ∀ {l : List (DataW H)} {d : DataW H}, d ∈ l → ∀ q ∈ d.weights P e, q ∈ DataW.weightsAll P e l
  | _ :: _, _, .head _, q, hq => by rw [DataW.weightsAll]; exact List.mem_append_left _ hq
  | _ :: _, _, .tail _ h, q, hq => by rw [DataW.weightsAll]; exact List.mem_append_right _ (mem_all h q hq)

theorem slice_weight {t e : TypeId} (ht : Try.prog.underlying t = some (.slice e)) (hf : DataW.trod enc Try.prog W 0 (fun _ => true) true fuel t cs = some x) {ao : Option Addr} {n cap : Nat} (hcs : cs = [.slice ao n cap]) (hw : ∀ q ∈ x.1.weights Try.prog t, q ≤ B) : n * Try.prog.bytesOf e ≤ B ∧ (ao = none → n = 0 ∧ cap = 0) := by
  rcases open_slice ht hf with ⟨h1, rfl⟩ | ⟨a, len, cap', m, fu, D, Pl, h1, _, hlc, hm, hmm, rfl, hel⟩
  · rw [hcs] at h1
    cases h1
    exact ⟨by simp, fun _ => ⟨rfl, rfl⟩⟩
  · rw [hcs] at h1
    cases h1
    refine ⟨?_, fun h => by cases h⟩
    have := hw ((n + (m - n)) * Try.prog.bytesOf e) (by simp [DataW.weights, ht])
    exact Nat.le_trans (Nat.mul_le_mul_right _ (Nat.le_add_right _ _)) this

theorem hands_weight (hf : DataW.trod enc Try.prog W 0 (fun _ => true) true fuel 25 cs = some x) {b off n cap : Nat} (hcs : cs = [.slice (some ⟨b, off, none⟩) n cap]) (hw : ∀ q ∈ x.1.weights Try.prog 25, q ≤ B) : ∀ i, i < n → ∀ ao' n' c', W.cell? ⟨b, off + i, none⟩ = some (.slice ao' n' c') → n' * Try.prog.bytesOf 52 ≤ B ∧ (ao' = none → n' = 0 ∧ c' = 0) := by
  intro i hi ao' n' c' hc
  rcases open_slice Try.underlying25 hf with ⟨h1, rfl⟩ | ⟨a, len, cap', m, fu, D, Pl, h1, _, hlc, hm, hmm, rfl, hel⟩
  · rw [hcs] at h1
    cases h1
  · rw [hcs] at h1
    cases h1
    simp at hmm
    obtain ⟨cs', h2, h3⟩ := hel i (by omega)
    rw [ncells49] at h2
    obtain ⟨_, hlen, hcell⟩ := World.cells?_some h2
    have hcs' : cs' = [.slice ao' n' c'] := by
      have e := hcell 0 (by simp)
      rw [add_add, add_plain] at e
      simp only [Nat.mul_one, Nat.add_zero] at e
      rw [hc] at e
      obtain ⟨y, rfl⟩ : ∃ y, cs' = [y] := by
        match cs', hlen with
        | [y], _ => exact ⟨y, rfl⟩
      simp at e
      rw [e]
    exact slice_weight Try.underlying50 h3 hcs' (fun q hq => hw q (by
      simp only [DataW.weights, Try.underlying25]
      exact List.mem_cons_of_mem _ (List.mem_append_left _ (mem_all (List.mem_map.2 ⟨i, List.mem_range.2 hi, rfl⟩) q hq))))
end

theorem ncellsRK : Try.prog.cellsOf 28 = 10 := by kernel_rfl
theorem bytesU : Try.prog.bytesOf 39 = 8 := by kernel_rfl
theorem bytesI : Try.prog.bytesOf 3 = 8 := by kernel_rfl
theorem bytesS : Try.prog.bytesOf 50 = 24 := by kernel_rfl
theorem bytesJ : Try.prog.bytesOf 52 = 40 := by kernel_rfl

set_option maxRecDepth 4000 in
theorem open_runK {H : Type} {enc : TypeId × Value → H} {W : World} {base B : Nat} {v : Value} {d : DataW H} {p : List MemPlace} (hv : Value.okWide Try.prog W .any base 28 v) (h : DataW.Trod enc Try.prog W 0 (fun _ => true) true 28 v d p) (hw : ∀ q ∈ d.weights Try.prog 28, q ≤ B) :
    ∃ (sh : Shp) (ao : Option Addr) (n cap : Nat) (f : Nat → Int) (aoh : Option Addr) (nh caph : Nat) (jn : Nat → Nat) (jb : Nat → Nat → Jb) (aos : Option Addr) (ns caps : Nat) (s : Nat → Int) (most : Int),
      v = .agg #[.int .i64 sh.a, .int .i64 sh.b, .int .i64 sh.c, .int .i64 sh.d, .int .i64 sh.e, .int .i64 sh.f, .slice ao n cap, .slice aoh nh caph, .slice aos ns caps, .int .i64 most] ∧
      (ao = none → n = 0 ∧ cap = 0) ∧ Sees W W.heap.size ao n f ∧ (∀ i, i < n → 0 ≤ f i ∧ f i ≤ 18446744073709551615) ∧ SeesH W W.heap.size aoh nh jn jb ∧ (∀ h, h < nh → ∀ j, j < jn h → (jb h j).wf) ∧ SeesI W W.heap.size aos ns s ∧
      (aos = none → ns = 0 ∧ caps = 0) ∧ (∀ h, h < nh → ∀ b off c, aoh = some ⟨b, off, none⟩ → W.cell? ⟨b, off + h, none⟩ = some (.slice none (jn h) c) → c = 0) ∧ n * 8 ≤ B ∧ nh * 24 ≤ B ∧ (∀ h, h < nh → jn h * 40 ≤ B) ∧ ns * 8 ≤ B := by
  obtain ⟨cs, rfl, hsz⟩ := okWide_struct Try.underlying28 hv
  rw [ncellsRK] at hsz
  obtain ⟨l⟩ := cs
  obtain ⟨c0, c1, c2, c3, c4, c5, c6, c7, c8, c9, rfl⟩ := list10 hsz
  obtain ⟨fuel, hf⟩ := h
  obtain ⟨xs, m, _, hx, _, hl, hel⟩ := DataW.trod_struct Try.underlying28 hf
  obtain ⟨y0, y1, y2, y3, y4, rfl⟩ := list5' hl
  obtain ⟨rfl, rfl⟩ : d = .agg ([y0, y1, y2, y3, y4].map (·.1)) ∧ p = [y0, y1, y2, y3, y4].flatMap (·.2) := by injection hx with h1 h2; exact ⟨h1, h2⟩
  have each : ∀ (j : Nat) (t : TypeId) (y : DataW H × List MemPlace), [23, 24, 25, 26, 3][j]? = some t → [y0, y1, y2, y3, y4][j]? = some y → ∀ q ∈ y.1.weights Try.prog t, q ≤ B := fun j t y h1 h2 q hq => hw q (by
    simp only [DataW.weights, Try.underlying28]
    exact DataW.weights_mem_each (j := j) (t := t) (d := y.1) h1 (by rw [List.getElem?_map, h2]; rfl) q hq)
  have q0 := hel 0 _ rfl
  have q1 := hel 1 _ rfl
  have q2 := hel 2 _ rfl
  have q3 := hel 3 _ rfl
  have q4 := hel 4 _ rfl
  simp [ncellsSh, ncellsW, ncellsH, ncellsI, ncells3, Value.cells] at q0 q1 q2 q3 q4
  obtain ⟨sh, e0⟩ := shape_t rfl q0
  obtain ⟨ao, n, cap, f, e1, a1, a2, a3, a4⟩ := words_t q1
  obtain ⟨aoh, nh, caph, jn, jb, e2, b1, b2, b3⟩ := hands_t q2
  obtain ⟨aos, ns, caps, s, e3, d1, d2⟩ := nums_t q3
  obtain ⟨most, e4, _, _⟩ := DataW.trod_int Try.underlying3 q4
  have w1 := slice_weight Try.underlying24 q1 e1 (each 1 _ y1 rfl rfl)
  have w2 := slice_weight Try.underlying25 q2 e2 (each 2 _ y2 rfl rfl)
  have w3 := slice_weight Try.underlying26 q3 e3 (each 3 _ y3 rfl rfl)
  have w4 : ∀ h, h < nh → ∀ b off ao' n' c', aoh = some ⟨b, off, none⟩ → W.cell? ⟨b, off + h, none⟩ = some (.slice ao' n' c') → n' * 40 ≤ B ∧ (ao' = none → n' = 0 ∧ c' = 0) := fun h hh b off ao' n' c' ea hc => by
    subst ea
    have := hands_weight q2 e2 (each 2 _ y2 rfl rfl) h hh ao' n' c' hc
    rwa [bytesJ] at this
  rw [bytesU] at w1
  rw [bytesS] at w2
  rw [bytesI] at w3
  simp at e0 e1 e2 e3 e4
  obtain ⟨rfl, rfl, rfl, rfl, rfl, rfl⟩ := e0
  subst e1 e2 e3 e4
  refine ⟨sh, ao, n, cap, f, aoh, nh, caph, jn, jb, aos, ns, caps, s, most, rfl, a1, a3, a4, b2, b3, d2, w3.2, fun h hh b off c ea hc => ((w4 h hh b off none _ c ea hc).2 rfl).2, w1.1, w2.1, fun h hh => ?_, w3.1⟩
  obtain ⟨b, off, ao', c', ea, _, hc, _⟩ := b2 h hh
  exact (w4 h hh b off ao' _ c' ea hc).1
end L8
end Go.Proofs.Ytdgolkdedghajaa
