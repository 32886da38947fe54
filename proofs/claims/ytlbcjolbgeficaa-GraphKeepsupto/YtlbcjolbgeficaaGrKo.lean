/-
  Graph: a view handed in, opened: lists that are nil have no room
-/
import Derived.Test.YtlbcjolbgeficaaGrOp
import Derived.Test.YtlbcjolbgeficaaGrKc
namespace Go.Proofs.Ytlbcjolbgeficaa
open Go.ChangeShapes Go.WideShapes Go.ChangeAt Go.RowKit Go.Deep
set_option linter.unusedVariables false
set_option linter.unusedSimpArgs false
set_option maxRecDepth 100000
namespace Gr
section
variable {H : Type} {enc : TypeId × Value → H} {W : World} {fuel : Nat} {cs : List Value} {x : DataW H × List MemPlace}
theorem nil_any {t e : TypeId} (ht : Try.prog.underlying t = some (.slice e)) {ao : Option Addr} {n cap : Nat} (h : DataW.trod enc Try.prog W 0 (fun _ => true) true fuel t [.slice ao n cap] = some x) : ao = none → cap = 0 := by
  intro hao
  rcases open_slice ht h with ⟨h1, _⟩ | ⟨a, len, cap', m, fu, D, Pl, h1, _⟩
  · cases h1; rfl
  · cases h1; cases hao
set_option maxRecDepth 4000 in
theorem tr_obj8 (hl : cs.length = 9) (h : DataW.trod enc Try.prog W 0 (fun _ => true) true fuel 41 cs = some x) {ai : Option Addr} {n ci : Nat} (h8 : cs[8]? = some (.slice ai n ci)) : ai = none → ci = 0 := by
  obtain ⟨c0, c1, c2, c3, c4, c5, c6, c7, c8, rfl⟩ := list9 hl
  obtain ⟨xs, m, _, hx, _, hl, hel⟩ := DataW.trod_struct Try.underlying41 h
  obtain ⟨y0, y1, y2, y3, y4, y5, y6, y7, y8, rfl⟩ := list9 hl
  have q8 := hel 8 _ rfl
  simp [nc_b, nc_i, nc_u, nc_su, Value.cells] at q8
  simp at h8
  subst h8
  exact nil_any Try.underlying23 q8
theorem tr_objsN {oa : Option Addr} {m cb : Nat} (h : DataW.trod enc Try.prog W 0 (fun _ => true) true fuel 25 [.slice oa m cb] = some x) {b off j : Nat} (hj : j < m) (e : oa = some ⟨b, off, none⟩) {ai : Option Addr} {n ci : Nat} (hc : W.cell? ⟨b, off + j * 9 + 8, none⟩ = some (.slice ai n ci)) : ai = none → ci = 0 := by
  rcases open_slice Try.underlying25 h with ⟨hcs, hx⟩ | ⟨a, len, cap, m', fu, D, Pl, hcs, _, hlc, hm, hmm, hx, hel⟩
  · simp at hcs
    rw [hcs.1] at e
    cases e
  · simp at hmm hcs
    obtain ⟨rfl, rfl, rfl⟩ := hcs
    rw [nc_o] at hel
    cases e
    obtain ⟨cs', h1, h2⟩ := hel j (by omega)
    obtain ⟨_, hlen, hcell⟩ := World.cells?_some h1
    have e8 := hcell 8 (by omega)
    rw [add_add, Go.WideShapes.add_plain, ← Nat.add_assoc, hc] at e8
    exact tr_obj8 hlen h2 (n := n) (by rw [← e8])
theorem tr_listsN {ra : Option Addr} {m cr : Nat} (h : DataW.trod enc Try.prog W 0 (fun _ => true) true fuel 24 [.slice ra m cr] = some x) {b off j : Nat} (hj : j < m) (e : ra = some ⟨b, off, none⟩) {ai : Option Addr} {n ci : Nat} (hc : W.cell? ⟨b, off + j, none⟩ = some (.slice ai n ci)) : ai = none → ci = 0 := by
  rcases open_slice Try.underlying24 h with ⟨hcs, hx⟩ | ⟨a, len, cap, m', fu, D, Pl, hcs, _, hlc, hm, hmm, hx, hel⟩
  · simp at hcs
    rw [hcs.1] at e
    cases e
  · simp at hmm hcs
    obtain ⟨rfl, rfl, rfl⟩ := hcs
    rw [nc_su] at hel
    cases e
    obtain ⟨cs', h1, h2⟩ := hel j (by omega)
    obtain ⟨_, hlen, hcell⟩ := World.cells?_some h1
    have e0 := hcell 0 (by omega)
    rw [add_add, Go.WideShapes.add_plain] at e0
    simp only [Nat.mul_one, Nat.add_zero] at e0
    rw [hc] at e0
    match cs', hlen, e0 with
    | [v], _, e0 =>
      simp at e0
      subst e0
      exact nil_any Try.underlying23 h2
theorem tr_viewN {c : Vc} {a : Av} (h : DataW.trod enc Try.prog W 0 (fun _ => true) true fuel 29 (vcl c a) = some x) : Ncv W c a := by
  unfold vcl at h
  obtain ⟨xs, m, _, hx, _, hl, hel⟩ := DataW.trod_struct Try.underlying29 h
  obtain ⟨y0, y1, y2, y3, y4, y5, y6, y7, y8, y9, y10, rfl⟩ := list11 hl
  have q4 := hel 4 _ rfl
  have q6 := hel 6 _ rfl
  have q9 := hel 9 _ rfl
  simp [nc_i, nc_u, nc_su, nc_ssu, nc_so, nc_si, nc_a4, Value.cells] at q4 q6 q9
  exact ⟨fun b off j l ai n ci e hl hc => tr_listsN q4 (List.getElem?_eq_some_iff.1 hl).1 e hc, fun b off j o ai n ci e ho hc => tr_objsN q6 (List.getElem?_eq_some_iff.1 ho).1 e hc, nil_any Try.underlying26 q9⟩
end
end Gr
end Go.Proofs.Ytlbcjolbgeficaa
