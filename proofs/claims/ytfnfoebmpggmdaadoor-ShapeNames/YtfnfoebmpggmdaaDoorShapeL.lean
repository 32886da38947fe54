/-
  From a walk to a law's statement, where the package's table of names is laid.
-/
import Derived.Test.YtfnfoebmpggmdaaDoorShapeT
import Derived.Test.YtfnfoebmpggmdaaDoorLift
import Derived.LaidMore
import Derived.LaidByText
import Derived.Stop.LaidErr
import Derived.Stop.Joined
import Derived.OpenShut
import Derived.ProofKit
namespace Go.Proofs.YtfnfoebmpggmdaaDoor
open Go.ChangeShapes Go.WideShapes Go.ChangeAt Go.RowKit Go.Deep
set_option linter.unusedVariables false
set_option linter.unusedSimpArgs false
set_option linter.unnecessarySimpa false
set_option maxRecDepth 100000
namespace Shape

def laid4 : List (String × DataW Unit) := [("math/bits.deBruijn32tab", Rows.laid_math_bits_deBruijn32tab), ("math/bits.deBruijn64tab", Rows.laid_math_bits_deBruijn64tab), ("internal/strconv.uint64pow10", Rows.laid_internal_strconv_uint64pow10), ("midden/shape.headNames", Rows.laid_midden_shape_headNames)]
theorem gHeads : Tryd.prog.globalNamed "midden/shape.headNames" = some 0 := by kernel_rfl
theorem tHeads : (Tryd.prog.globals[0]?).map (·.type) = some 63 := by kernel_rfl
theorem cS : Tryd.prog.cellsOf 9 = 1 := by kernel_rfl

theorem door_met (os : Os) (args : Array Value) : laidMetH Tryd.prog laid4 ((World.doorLaid Tryd.prog 400 os).forCall (fun _ _ => 0) ⟨#[], args, []⟩).memory :=
  laidMetH_of_parts3 (fuel := 8) (laidMet_of_run' 8 (by kernel_rfl) (by kernel_rfl)) (by kernel_rfl) (by kernel_rfl)

theorem tab_of {W : World} (h : laidMetH Tryd.prog laid4 W) : Tab W := by
  rw [MakeChecks.laidMetH_plain _ _ _ (by kernel_rfl)] at h
  obtain ⟨ps, ⟨g, t, cs, f, p, q, hg, ht, hv, hd, _⟩, _⟩ := h.tail.tail.tail
  obtain rfl := Option.some.inj (gHeads.symm.trans hg)
  obtain rfl := Option.some.inj (tHeads.symm.trans ht)
  obtain ⟨xs, m1, hxx, hx1, hlen, hn8, hel⟩ := DataW.trod_array Tryd.underlying63 hd
  have eL : Rows.laid_midden_shape_headNames (H := Unit) = .agg (heads.map fun b => .lit (.string b)) := rfl
  rw [eL] at hx1
  simp only [Prod.mk.injEq, DataW.agg.injEq] at hx1
  have cell : ∀ i, i < 8 → W.cell? ⟨0, i, none⟩ = some (.string ⟨(heads.getD i []).toArray⟩) := fun i hi => by
    have e := hel i hi
    rw [cS, Nat.mul_one] at e
    have hy : xs[i]? = some (xs[i]'(by omega)) := by simp
    rw [hy] at e
    obtain ⟨s, hcs, hys, _⟩ := DataW.trod_string Tryd.underlying9 e
    have h1 : (xs.map (·.1))[i]? = some (.lit (.string (heads.getD i []))) := by
      rw [← hx1.1]
      have h8 : i < heads.length := hi
      simp [h8]
    rw [List.getElem?_map, hy, hys] at h1
    simp only [Option.map_some, Option.some.injEq, DataW.lit.injEq, Lit.string.injEq] at h1
    have h2 : s = ⟨(heads.getD i []).toArray⟩ := by rw [← h1]
    rw [World.var?_cell hg hv i, ← h2]
    have h3 : (cs.toList.drop i)[0]? = some (.string s) := by
      have : ((cs.toList.drop i).take 1)[0]? = some (Value.string s) := by rw [hcs]; rfl
      rw [List.getElem?_take] at this
      simpa using this
    rw [List.getElem?_drop] at h3
    simpa using h3
  exact ⟨World.block_lt_of_cell? W ⟨0, 0, none⟩ (cell 0 (by decide)), cell⟩

theorem list6 {α : Type} {l : List α} (h : l.length = 6) : ∃ a b c d e f, l = [a, b, c, d, e, f] := by
  match l, h with
  | [a, b, c, d, e, f], _ => exact ⟨a, b, c, d, e, f, rfl⟩
theorem ncells3 : Tryd.prog.cellsOf 3 = 1 := by kernel_rfl
theorem ncellsSh : Tryd.prog.cellsOf 23 = 6 := by kernel_rfl
set_option maxRecDepth 4000 in
theorem shape_t {H : Type} {enc : TypeId × Value → H} {W : World} {fuel : Nat} {cs : List Value} {x : DataW H × List MemPlace} (hl : cs.length = 6) (hf : DataW.trod enc Tryd.prog W 0 (fun _ => true) true fuel 23 cs = some x) :
    ∃ s0 s1 s2 s3 s4 s5 : Int, cs = [.int .i64 s0, .int .i64 s1, .int .i64 s2, .int .i64 s3, .int .i64 s4, .int .i64 s5] := by
  obtain ⟨c0, c1, c2, c3, c4, c5, rfl⟩ := list6 hl
  obtain ⟨xs, m, _, hx, _, hl, hel⟩ := DataW.trod_struct Tryd.underlying23 hf
  obtain ⟨y0, y1, y2, y3, y4, y5, rfl⟩ := list6 hl
  have q0 := hel 0 _ rfl
  have q1 := hel 1 _ rfl
  have q2 := hel 2 _ rfl
  have q3 := hel 3 _ rfl
  have q4 := hel 4 _ rfl
  have q5 := hel 5 _ rfl
  simp [ncells3, Value.cells] at q0 q1 q2 q3 q4 q5
  obtain ⟨h0, e0, _, _⟩ := DataW.trod_int Tryd.underlying3 q0
  obtain ⟨h1, e1, _, _⟩ := DataW.trod_int Tryd.underlying3 q1
  obtain ⟨h2, e2, _, _⟩ := DataW.trod_int Tryd.underlying3 q2
  obtain ⟨h3, e3, _, _⟩ := DataW.trod_int Tryd.underlying3 q3
  obtain ⟨h4, e4, _, _⟩ := DataW.trod_int Tryd.underlying3 q4
  obtain ⟨h5, e5, _, _⟩ := DataW.trod_int Tryd.underlying3 q5
  simp at e0 e1 e2 e3 e4 e5
  subst e0 e1 e2 e3 e4 e5
  exact ⟨h0, h1, h2, h3, h4, h5, rfl⟩
/-- A right shape's numbers are natural. -/
theorem nat_of {s0 s1 s2 s3 s4 : Int} (H : R5 s0 s1 s2 s3 s4) : ∃ o s h r k : Nat, s0 = o ∧ s1 = s ∧ s2 = h ∧ s3 = r ∧ s4 = k ∧ (⟨o, s, h, r, k⟩ : Sh).Ok := by
  obtain ⟨⟨a1, a2⟩, ⟨b1, b2⟩, ⟨c1, c2⟩, ⟨d1, d2⟩, ⟨e1, e2⟩⟩ := H
  exact ⟨s0.toNat, s1.toNat, s2.toNat, s3.toNat, s4.toNat, by omega, by omega, by omega, by omega, by omega, ⟨by simp only; omega, by simp only; omega, by simp only; omega, by simp only; omega, by simp only; omega, by simp only; omega, by simp only; omega, by simp only; omega⟩⟩
end Shape
end Go.Proofs.YtfnfoebmpggmdaaDoor
