/-
  Of a view that is handed in, the number of objects is no more than its bulk.
-/
import Derived.Test.YtlbcjolbgeficaaGrOp
namespace Go.Proofs.Ytlbcjolbgeficaa
open Go.ChangeShapes Go.WideShapes Go.ChangeAt Go.RowKit Go.Deep
set_option linter.unusedVariables false
set_option linter.unusedSimpArgs false
set_option maxRecDepth 100000
namespace Gr
set_option maxRecDepth 4000 in
theorem view_no {H : Type} {enc : TypeId × Value → H} {W : World} {fuel : Nat} {x : DataW H × List MemPlace} {cs : List Value} {c : Vc} {a : Av} (hc : cs = vcl c a) (h : DataW.trod enc Try.prog W 0 (fun _ => true) true fuel 29 cs = some x) : c.os.length ≤ Rows.uptoBulk x.1 := by
  have hl14 : cs.length = 14 := by rw [hc]; rfl
  obtain ⟨c0, c1, c2, c3, c4, c5, c6, c7, c8, c9, c10, c11, c12, c13, rfl⟩ := list14 hl14
  obtain ⟨xs, m, _, hx, _, hl, hel⟩ := DataW.trod_struct Try.underlying29 h
  obtain ⟨y0, y1, y2, y3, y4, y5, y6, y7, y8, y9, y10, rfl⟩ := list11 hl
  have q6 := hel 6 _ rfl
  simp [nc_i, nc_u, nc_su, nc_ssu, nc_so, nc_si, nc_a4, Value.cells] at q6
  obtain ⟨oa, os, cb, e6, _, _, _, hk, _⟩ := tr_objs q6
  simp [vcl] at hc e6
  have e : c.os.length = os.length := by
    have h6 := hc.2.2.2.2.2.2.1
    rw [e6] at h6
    simp at h6
    omega
  have hb : Rows.uptoBulk x.1 = Rows.uptoBulkAll [y0.1, y1.1, y2.1, y3.1, y4.1, y5.1, y6.1, y7.1, y8.1, y9.1, y10.1] + 1 := by rw [hx]; simp [Rows.uptoBulk]
  simp only [Rows.uptoBulkAll] at hb
  omega
end Gr
end Go.Proofs.Ytlbcjolbgeficaa
