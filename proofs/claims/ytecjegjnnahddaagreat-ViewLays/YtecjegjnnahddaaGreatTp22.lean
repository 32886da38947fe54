/-
  Lemmas: VwRs.
-/
import Derived.Test.YtecjegjnnahddaaGreatTp21
/-
  View: the document's Sound
-/
namespace Go.Proofs.YtecjegjnnahddaaGreat
open Go.RowKit
set_option linter.unusedVariables false
set_option linter.unusedSimpArgs false
set_option linter.unnecessarySimpa false
set_option maxRecDepth 20000
namespace LtC
open Lt (up up_same up_other)
variable {cs : List Nat} {ra rb : Nat} {S : Nat → (Nat → Value) → World → Prop} {L : Nat → Bool} {s : Nat → Value} {w : World}
theorem WI.past {m j : Nat} (h : WI cs ra rb S L s w) (hm : cs[m]? = some j) (hL : L j = true) : ∃ n, m < n ∧ S n s w := by
  obtain ⟨⟨n, hn, hLn, hS⟩, hr⟩ := h
  exact ⟨n, (hLn m j hm).1 hL, hS⟩
variable {P : Program} {Q : Exit → Act → World → Prop} {ks : List (Nat × Nat)} {vals : Nat → Value} {xs : List Nat} {a0 : Act} {i m : Nat} {o : Oper}
/-- It stands beside the chain: it tells a slot that the chain does not speak of. -/
theorem side {x : Nat} (hi : cs.contains i = false) (hra : cs.contains ra = true) (hd : o.dst = some x) (hx : xs.contains x = true) (hn : Lt.look ks i = none) (hS : ∀ n s w v, S n s w → S n (fun k => if k = x then v else s k) w)
    (h : ∀ L a w, LtH.In ks vals xs (WI cs ra rb S) a0 L a w → L i = false → (∀ e ∈ o.after, Region.binds .any e = true → L e.on = true) → ∃ v, (execOp a.eval o).run P w = .ok (.value v) w) : LtH.Does P Q ks vals xs (WI cs ra rb S) a0 i o :=
  .own x hd hx hn fun L a w K hI hL hdep hk => by
    obtain ⟨v, hv⟩ := h L a w hI hL hdep
    refine Lt.wp_value hv ?_
    rw [hd]
    refine hk w v ?_
    obtain ⟨⟨n, h1, h2, h3⟩, h4⟩ := hI.world.pass hi hra
    exact ⟨⟨n, h1, h2, hS _ _ _ _ h3⟩, h4⟩
end LtC
namespace Vw
open Shape

/-- What a call of along leaves, link by link: the number at the end. -/
def AlS (wr : World) (c mv e s1 : Nat) (R : List Int × Int) : Nat → (Nat → Value) → World → Prop
  | 0, s, w => Below wr.heap.size wr w
  | 1, s, w => Below wr.heap.size wr w ∧ ∃ fa cf, s c = .tuple #[.slice fa R.1.length cf, .int .i64 R.2]
  | 2, s, w => Below wr.heap.size wr w ∧ ∃ fa cf, s mv = .tuple #[.slice fa R.1.length cf, .int .i64 R.2]
  | 3, s, w => Below wr.heap.size wr w ∧ (∃ fa cf, s mv = .tuple #[.slice fa R.1.length cf, .int .i64 R.2]) ∧ s e = .int .i64 R.2
  | _, s, w => Below wr.heap.size wr w ∧ (∃ fa cf, s mv = .tuple #[.slice fa R.1.length cf, .int .i64 R.2]) ∧ s s1 = .int .i64 R.2
theorem AlS.low {wr : World} {c mv e s1 : Nat} {R : List Int × Int} {n : Nat} {s : Nat → Value} {w : World} (h : AlS wr c mv e s1 R n s w) : Below wr.heap.size wr w := by
  match n, h with
  | 0, h => exact h
  | 1, h => exact h.1
  | 2, h => exact h.1
  | 3, h => exact h.1
  | n + 4, h => exact h.1
theorem AlS.tup {wr : World} {c mv e s1 : Nat} {R : List Int × Int} {n : Nat} {s : Nat → Value} {w : World} (h : AlS wr c mv e s1 R n s w) (hn : 1 < n) : ∃ fa cf, s mv = .tuple #[.slice fa R.1.length cf, .int .i64 R.2] := by
  match n, h with
  | 0, h => omega
  | 1, h => omega
  | 2, h => exact h.2
  | 3, h => exact h.2.1
  | n + 4, h => exact h.2.1
theorem AlS.local {wr : World} {c mv e s1 : Nat} {R : List Int × Int} {n : Nat} {s s' : Nat → Value} {w : World} (h1 : s c = s' c) (h2 : s mv = s' mv) (h3 : s e = s' e) (h4 : s s1 = s' s1) (h : AlS wr c mv e s1 R n s w) : AlS wr c mv e s1 R n s' w := by
  match n, h with
  | 0, h => exact h
  | 1, h => simp only [AlS] at h ⊢; rw [← h1]; exact h
  | 2, h => simp only [AlS] at h ⊢; rw [← h2]; exact h
  | 3, h => simp only [AlS] at h ⊢; rw [← h2, ← h3]; exact h
  | n + 4, h => simp only [AlS] at h ⊢; rw [← h2, ← h4]; exact h
theorem AlS.other {wr : World} {c mv e s1 x : Nat} {R : List Int × Int} {n : Nat} {s : Nat → Value} {w : World} {v : Value} (h : AlS wr c mv e s1 R n s w) (h1 : c ≠ x) (h2 : mv ≠ x) (h3 : e ≠ x) (h4 : s1 ≠ x) : AlS wr c mv e s1 R n (fun k => if k = x then v else s k) w :=
  h.local (by simp [h1]) (by simp [h2]) (by simp [h3]) (by simp [h4])
theorem ex_idxN {ev : Operand → Value} {o : Oper} {w : World} {x y : Operand} {b off n cap k : Nat} (ho : o.op = .indexAddr 25 x y) (hx : ev x = .slice (some ⟨b, off, none⟩) n cap) (hy : ev y = .int .i64 (k : Int)) (hk : k < n) : (execOp ev o).run Tryz.prog w = .ok (.value (.pointer (some ⟨b, off + k, none⟩))) w := by
  have hk' : (k : Int) < (n : Int) := by omega
  simp [execOp, ho, hx, hy, go_sem, hk']
def lkE (c : Cv) (u : Int) : List Int × Int := al c.no (fun x => (c.ob (x.toNat - 1)).lk % 4294967296) c.no [] (u % 4294967296)
def nxE (c : Cv) (u : Int) : List Int × Int := al c.no (fun x => (c.ob (x.toNat - 1)).nx % 4294967296) c.no [] (u % 4294967296)
theorem Shows.links {w : World} {c : Cv} {a : Av} (h : Shows w c a) : Links w a.oa c.no (fun j => (c.ob j).lk) (fun j => (c.ob j).nx) := fun j hj => by
  obtain ⟨b, off, ai, ci, e, hl, hc, _⟩ := h.ob j hj
  exact ⟨b, off, e, hl, by simpa [Ob.cell] using hc 6 (by decide), by simpa [Ob.cell] using hc 7 (by decide)⟩
def Pk (c : Cv) (j : Nat) : Prop := obOk c j ∧ (((j : Int) + 1) ∈ c.qu → quOk c ((j : Int) + 1)) ∧ ((c.ob j).us = true → ∀ i, i < (c.ob j).ns → hOk c ((c.ob j).sl i))
theorem pk_iff {c : Cv} {j : Nat} {us li fi ta : Bool} {ag ge lk nx : Int} {ns : Nat} {sl : Nat → Int} (h : c.ob j = ⟨us, li, fi, ta, ag, ge, lk, nx, ns, sl⟩) : Pk c j ↔ ((us = true → li = true ∧ ¬ ((j : Int) + 1) ∈ c.fr) ∧ (us = false → (((j : Int) + 1) ∈ c.fr ∨ ge = 4294967295) ∧ ∀ q, q < ns → sl q = 0)) ∧ (((j : Int) + 1) ∈ c.qu → us = true ∧ fi = true ∧ ta = true) ∧ (us = true → ∀ i, i < ns → hOk c (sl i)) := by
  unfold Pk obOk quOk
  rw [show ((j : Int) + 1).toNat - 1 = j by omega, h]
theorem ex_idxR {ev : Operand → Value} {o : Oper} {w : World} {x y : Operand} {b off n cap k : Nat} (ho : o.op = .indexAddr 26 x y) (hx : ev x = .slice (some ⟨b, off, none⟩) n cap) (hy : ev y = .int .i64 (k : Int)) (hk : (k : Int) < (n : Int)) : (execOp ev o).run Tryz.prog w = .ok (.value (.pointer (some ⟨b, off + k, none⟩))) w := by
  simp [execOp, ho, hx, hy, go_sem, hk]
end Vw
end Go.Proofs.YtecjegjnnahddaaGreat
