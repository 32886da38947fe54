/-
  What the step of a run needs: two blocks written at once, rows that grow, elements laid in blocks of their own.
-/
import Derived.Test.YtdbiphibdaghkaaGoods
import Derived.Deep.Cut
import Derived.Deep.RegionLaw
namespace Go.Proofs.Ytdbiphibdaghkaa
open Go.RowKit
set_option linter.unusedVariables false
set_option linter.unusedSimpArgs false
set_option linter.unusedSectionVars false
set_option maxRecDepth 20000

theorem Has.write2 {ι : Type} [DecidableEq ι] {w w' : World} {base : Nat} {blk : ι → Nat} {c : ι → Option Row} (h : Has w base blk c) (r1 r2 : ι) (x1 x2 : Row) {y1 y2 : Row} (e1 : c r1 = some y1) (e2 : c r2 = some y2) (hne : r1 ≠ r2)
    (ht : Touch w w' (fun k => k = blk r1 ∨ k = blk r2)) (h1 : w'.rowIs (blk r1) x1.t x1.n x1.f) (h2 : w'.rowIs (blk r2) x2.t x2.n x2.f) : Has w' base blk (upd (upd c r1 (some x1)) r2 (some x2)) := by
  refine ⟨fun r r' x x' e e' hb => ?_, fun r x e => ?_, fun r x e => ?_⟩
  · have key : ∀ r x, upd (upd c r1 (some x1)) r2 (some x2) r = some x → ∃ y, c r = some y := by
      intro r x e
      by_cases hr2 : r = r2
      · subst hr2; exact ⟨_, e2⟩
      · rw [upd_other _ _ hr2] at e
        by_cases hr1 : r = r1
        · subst hr1; exact ⟨_, e1⟩
        · rw [upd_other _ _ hr1] at e; exact ⟨_, e⟩
    obtain ⟨y, hy⟩ := key r x e
    obtain ⟨y', hy'⟩ := key r' x' e'
    exact h.inj r r' y y' hy hy' hb
  · by_cases hr2 : r = r2
    · subst hr2; rw [upd_same] at e; cases e; exact h2
    · rw [upd_other _ _ hr2] at e
      by_cases hr1 : r = r1
      · subst hr1; rw [upd_same] at e; cases e; exact h1
      · rw [upd_other _ _ hr1] at e
        exact (h.row r x e).of_block (ht.block _ (h.lt e) (fun hk => by rcases hk with hk | hk; exact h.ne e e1 hr1 hk; exact h.ne e e2 hr2 hk))
  · by_cases hr2 : r = r2
    · subst hr2; exact h.new _ _ e2
    · rw [upd_other _ _ hr2] at e
      by_cases hr1 : r = r1
      · subst hr1; exact h.new _ _ e1
      · rw [upd_other _ _ hr1] at e; exact h.new _ _ e

theorem Good.isMem {K : Kd} {P : Par} {blk : Rl → Nat} {c : Rl → Option Row} {st : St K} {w : World} {base : Nat} (G : Good K P blk c st) (H : Has w base blk c) : IsMem w (blk .mem) (blk .words) P.n st.f :=
  ⟨H.row _ _ G.mem, H.row _ _ G.words, G.most, G.word⟩

theorem Grows.upd {blk : Rl → Nat} {c : Rl → Option Row} {r r' : Rl} {e : TypeId} {sz k : Nat} {xs : List Value} {v : Value} (h : Grows blk c r e sz k xs v) (hne : r ≠ r') (x : Option Row) (nb : Nat) : Grows (upd blk r' nb) (upd c r' x) r e sz k xs v := by
  unfold Grows at h ⊢
  rw [upd_other _ _ hne, upd_other _ _ hne]
  exact h
theorem Grows.upd' {blk : Rl → Nat} {c : Rl → Option Row} {r r' : Rl} {e : TypeId} {sz k : Nat} {xs : List Value} {v : Value} (h : Grows blk c r e sz k xs v) (hne : r ≠ r') (x : Option Row) : Grows blk (Ytdbiphibdaghkaa.upd c r' x) r e sz k xs v := by
  unfold Grows at h ⊢
  rw [upd_other _ _ hne]
  exact h

theorem info48z : (Try.prog.info? 46).map (fun i => (i.zero, i.size, i.bytes)) = some (some (.agg #[.int .i64 0, .int .i64 0, .int .i64 0, .int .u64 0, .int .u64 0, .bool false]), 6, 48) := by kernel_rfl
theorem info54z : (Try.prog.info? 49).map (fun i => (i.zero, i.size, i.bytes)) = some (some (.agg #[.bool false, .int .u64 0]), 2, 16) := by kernel_rfl

/-- An element laid in a new block of its own. -/
theorem cells_new (w : World) (vs : Array Value) (t : TypeId) : ∀ j u, vs.toList[j]? = some u → (w.alloc (.cells vs t)).cell? (Addr.add ⟨w.heap.size, 0, none⟩ j) = some u := by
  intro j u hj
  have hj' : vs[j]? = some u := by simpa using hj
  simp only [Addr.add, Nat.zero_add]
  by_cases h0 : j = 0
  · subst h0; simp [hj']
  · simp [h0, hj']
theorem step_one (x : Stp) : ∀ u ∈ x.cells, u.oneCell' = true := by
  intro u hu
  simp [Stp.cells] at hu
  rcases hu with rfl | rfl | rfl | rfl | rfl | rfl <;> rfl
theorem ans_one (x : Ans) : ∀ u ∈ x.cells, u.oneCell' = true := by
  intro u hu
  simp [Ans.cells] at hu
  rcases hu with rfl | rfl <;> rfl

theorem below_of_grown_none {a b : World} (h : a.grownBy b none) (B : Nat) (hB : B ≤ a.heap.size) : Below B a b := ⟨h.os, h.tape, h.output, h.size, fun k hk => h.block k (by omega) (by simp)⟩
end Go.Proofs.Ytdbiphibdaghkaa
