/-
  Lemmas: VwRg, VwRr.
-/
import Derived.Test.YtecjegjnnahddaaGreatTp20
import Derived.Test.YtecjegjnnahddaaGreatTp18
/-
  View: the document's Good
-/
namespace Go.Proofs.YtecjegjnnahddaaGreat
open Go.RowKit
set_option linter.unusedVariables false
set_option linter.unusedSimpArgs false
set_option linter.unnecessarySimpa false
set_option maxRecDepth 20000
namespace Vw
open Shape
end Vw
end Go.Proofs.YtecjegjnnahddaaGreat

/-
  View: the document's right
-/
namespace Go.Proofs.YtecjegjnnahddaaGreat
open Go.RowKit
set_option linter.unusedVariables false
set_option linter.unusedSimpArgs false
set_option linter.unnecessarySimpa false
set_option maxRecDepth 20000
namespace Vw
open Shape

theorem lt_frame {ks : List (Nat × Nat)} {vals : Nat → Value} {WI : World → Prop} {a0 a : Act} {L : Nat → Bool} {w : World} (h : Lt.In ks vals WI a0 L a w) (l : List Nat) (hl : (ks.all fun p => l.contains p.2) = true) (hs : ∀ x, x ∈ l → x < a0.tmps.size) : a = LtH.lay a l a0 := by
  refine LtH.act_ext ?_ ?_ ?_
  · rw [(LtH.lay_size a l a0).1]; exact h.sz
  · rw [(LtH.lay_size a l a0).2]; exact h.df
  · intro k
    rw [LtH.lay_eval a l a0 k hs]
    by_cases hk : k ∈ l
    · simp [hk]
    · simp only [hk, if_false]
      refine h.fix k (fun hD => ?_)
      simp only [Lt.D, List.any_eq_true, beq_iff_eq] at hD
      obtain ⟨p, hp, e⟩ := hD
      simp only [List.all_eq_true] at hl
      have := hl p hp
      rw [e] at this
      simp [hk] at this
theorem rngL {w : World} {b n : Nat} {T : TypeId} {l : List Value} (R : w.rowIs b T n (lrow l)) (hn : n = l.length) : w.rangeAt b 0 l := by
  intro j v hv
  have hj : j < l.length := (List.getElem?_eq_some_iff.1 hv).1
  have h := R.cell (i := j) (by omega)
  simp only [Nat.zero_add]
  rw [h]
  simp [lrow, hv]
theorem ex_idx1 {ev : Operand → Value} {o : Oper} {w : World} {x y : Operand} {b off n cap k : Nat} (ho : o.op = .indexAddr 25 x y) (hx : ev x = .slice (some ⟨b, off, none⟩) n cap) (hy : ev y = .int .i64 (k : Int)) (hk : (k : Int) < (n : Int)) (hn : n ≤ 70000) : (execOp ev o).run Tryz.prog w = .ok (.value (.pointer (some ⟨b, off + k, none⟩))) w := by
  simp [execOp, ho, hx, hy, go_sem, hk]
theorem ex_neqU {ev : Operand → Value} {o : Oper} {w : World} {x y : Operand} {u : Int} (ho : o.op = .binOp .neq 24 x y 24) (hx : ev x = .int .u64 u) (hy : ev y = .int .u64 0) (hu : (u != 0) = true) : (execOp ev o).run Tryz.prog w = .ok (.value (.bool true)) w := by
  simp [execOp, ho, hx, hy, go_sem]
  simpa using hu
end Vw
end Go.Proofs.YtecjegjnnahddaaGreat
