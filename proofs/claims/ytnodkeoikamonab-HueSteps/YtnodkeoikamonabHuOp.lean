/-
  Hue: a view handed in, opened: the grey list, slots that are nil.
-/
import Derived.Test.YtnodkeoikamonabGrOp
import Derived.Test.YtnodkeoikamonabHuC
namespace Go.Proofs.Ytnodkeoikamonab
open Go.ChangeShapes Go.WideShapes Go.ChangeAt Go.RowKit Go.Deep
set_option linter.unusedVariables false
set_option linter.unusedSimpArgs false
set_option maxRecDepth 100000
namespace Hu
open Gr
section
variable {H : Type} {enc : TypeId × Value → H} {W : World} {fuel : Nat} {cs : List Value} {x : DataW H × List MemPlace}
theorem nil_any {t e : TypeId} (ht : Try.prog.underlying t = some (.slice e)) {ao : Option Addr} {n cap : Nat} (h : DataW.trod enc Try.prog W 0 (fun _ => true) true fuel t [.slice ao n cap] = some x) : ao = none → cap = 0 := by
  intro hao
  rcases open_slice ht h with ⟨h1, _⟩ | ⟨a, len, cap', m, fu, D, Pl, h1, _⟩
  · cases h1; rfl
  · cases h1; cases hao
set_option maxRecDepth 4000 in
theorem tr_obj8 (hl : cs.length = 9) (h : DataW.trod enc Try.prog W 0 (fun _ => true) true fuel 44 cs = some x) {ai : Option Addr} {n ci : Nat} (h8 : cs[8]? = some (.slice ai n ci)) : ai = none → ci = 0 := by
  obtain ⟨c0, c1, c2, c3, c4, c5, c6, c7, c8, rfl⟩ := list9 hl
  obtain ⟨xs, m, _, hx, _, hl, hel⟩ := DataW.trod_struct Try.underlying44 h
  obtain ⟨y0, y1, y2, y3, y4, y5, y6, y7, y8, rfl⟩ := list9 hl
  have q8 := hel 8 _ rfl
  simp [nc_b, nc_i, nc_u, nc_su, Value.cells] at q8
  simp at h8
  subst h8
  exact nil_any Try.underlying23 q8
theorem tr_objs8 {oa : Option Addr} {os : List Ob} {cb : Nat} (h : DataW.trod enc Try.prog W 0 (fun _ => true) true fuel 25 [.slice oa os.length cb] = some x) (hS : Sob W oa os) : Ncp W oa os := by
  rcases open_slice Try.underlying25 h with ⟨hcs, hx⟩ | ⟨a, len, cap, m, fu, D, Pl, hcs, _, hlc, hm, hmm, hx, hel⟩
  · simp at hcs
    intro j o ho
    obtain ⟨b, off, ai, ci, e, _⟩ := hS j o ho
    rw [hcs.1] at e
    cases e
  · simp at hmm hcs
    obtain ⟨rfl, rfl, rfl⟩ := hcs
    rw [nc_o] at hel
    intro j o ho
    obtain ⟨b, off, ai, ci, e, hl, hc, hs⟩ := hS j o ho
    have hj := (List.getElem?_eq_some_iff.1 ho).1
    obtain ⟨cs', h1, h2⟩ := hel j (by omega)
    obtain ⟨_, hlen, hcell⟩ := World.cells?_some h1
    refine ⟨b, off, ai, ci, e, hl, hc 8 (by decide), ?_⟩
    cases e
    have e8 := hcell 8 (by omega)
    rw [add_add, Go.WideShapes.add_plain, ← Nat.add_assoc, hc 8 (by decide)] at e8
    exact tr_obj8 hlen h2 (n := o.sl.length) (by rw [← e8]; rfl)
theorem tr_viewH {c : Vc} {a : Av} (hS : Sob W a.oa c.os) (h : DataW.trod enc Try.prog W 0 (fun _ => true) true fuel 29 (vcl c a) = some x) : ∃ gl : List Int, a.ng = gl.length ∧ SeesN W a.ga gl ∧ Ncp W a.oa c.os ∧ (a.oa = none → a.cb = 0) ∧ ∀ B, (∀ q ∈ x.1.weights Try.prog 29, q ≤ B) → gl.length * 8 ≤ B := by
  unfold vcl at h
  obtain ⟨xs, m, _, hx, _, hl, hel⟩ := DataW.trod_struct Try.underlying29 h
  obtain ⟨y0, y1, y2, y3, y4, y5, y6, y7, y8, y9, y10, rfl⟩ := list11 hl
  have q6 := hel 6 _ rfl
  have q8 := hel 8 _ rfl
  simp [nc_i, nc_u, nc_su, nc_ssu, nc_so, nc_si, nc_a4, Value.cells] at q6 q8
  obtain ⟨ga, lg, cg, e8, h8, w8, _⟩ := tr_nums q8
  simp at e8
  obtain ⟨rfl, e8, rfl⟩ := e8
  refine ⟨lg, e8, h8, tr_objs8 q6 hS, nil_any Try.underlying25 q6, fun B hB => w8 B (fun q hq => hB q ?_)⟩
  rw [hx]
  simp only [List.map_cons, List.map_nil, DataW.weights, Try.underlying29, DataW.weightsEach]
  simp [hq]
end
end Hu
end Go.Proofs.Ytnodkeoikamonab
