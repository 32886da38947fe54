/-
  Lemmas: Play0.
-/
import Derived.Test.YtidihnnmdmlgfaaGreatTp11
import Derived.Deep.RegionHeld
namespace Go.Proofs.YtidihnnmdmlgfaaGreat
set_option maxHeartbeats 8000000
open Go.RowKit
set_option linter.unusedVariables false
set_option linter.unusedSimpArgs false
set_option maxRecDepth 20000
section
def errVal (er : Int) : Value := .tuple #[.agg #[.slice none 0 0, .slice none 0 0, .bool false], .slice none 0 0, .int .i64 er]
def Told (K : Kd) (P : Par) (st : St K) (base : Nat) (v : Value) (w' : World) : Prop :=
  ∃ blk c g sv, v = .tuple #[.agg #[sv, .slice (some ⟨g, 0, none⟩) P.n P.n, .bool (decide (cnt (st.going P) P.nh = 0))], .slice (some ⟨blk .answers, 0, none⟩) P.nh P.nh, .int .i64 0] ∧
    Has w' base blk c ∧ Good K P blk c st ∧ Grows blk c .steps 122 6 st.k (stepCells st.s st.k) sv ∧ IsRow w' g P.n P.n st.f ∧ base ≤ g ∧ ∀ r x, c r = some x → blk r ≠ g
theorem runSt_k {K : Kd} (P : Par) (st : St K) (h0 : st.k = 0) : ∀ m, (runSt P st m).k ≤ m ∧ ((runSt P st m).k < m → (runSt P st m).turn P < 0)
  | 0 => ⟨by show st.k ≤ 0; omega, fun h => by have : (runSt P st 0).k = 0 := h0; omega⟩
  | m + 1 => by
    obtain ⟨h1, h2⟩ := runSt_k P st h0 m
    by_cases ht : (runSt P st m).turn P < 0
    · have e : runSt P st (m + 1) = runSt P st m := by show (if _ then _ else _) = _; rw [if_pos ht]
      rw [e]
      exact ⟨by omega, fun _ => ht⟩
    · have e : runSt P st (m + 1) = stepSt P (runSt P st m) ((runSt P st m).turn P).toNat := by show (if _ then _ else _) = _; rw [if_neg ht]
      have ek : (runSt P st m).k = m := by rcases Nat.lt_or_ge (runSt P st m).k m with l | l; exact absurd (h2 l) ht; omega
      rw [e]
      have : (stepSt P (runSt P st m) ((runSt P st m).turn P).toNat).k = (runSt P st m).k + 1 := rfl
      exact ⟨by omega, fun h => by omega⟩
theorem runSt_step {K : Kd} {P : Par} {st : St K} {m h : Nat} (ht : (runSt P st m).turn P = h) : runSt P st (m + 1) = stepSt P (runSt P st m) h := by
  show (if (runSt P st m).turn P < 0 then _ else _) = _
  rw [if_neg (by omega), ht]; rfl
theorem Grows.isSlice {blk : Rl → Nat} {c : Rl → Option Row} {r : Rl} {e : TypeId} {sz k : Nat} {xs : List Value} {v : Value} (h : Grows blk c r e sz k xs v) : ∃ ao cap, v = .slice ao k cap := by
  rcases h with ⟨rfl, rfl, _⟩ | ⟨cap, F, rfl, _⟩
  · exact ⟨_, _, rfl⟩
  · exact ⟨_, _, rfl⟩
theorem cells3 {w : World} {b : Nat} {u0 u1 u2 : Value} (v0 v1 v2 : Value) (z0 : w.cell? ⟨b, 0, none⟩ = some u0) (z1 : w.cell? ⟨b, 1, none⟩ = some u1) (z2 : w.cell? ⟨b, 2, none⟩ = some u2) :
    (((w.setCell ⟨b, 0, none⟩ v0).setCell ⟨b, 1, none⟩ v1).setCell ⟨b, 2, none⟩ v2).cell? ⟨b, 0, none⟩ = some v0 ∧ (((w.setCell ⟨b, 0, none⟩ v0).setCell ⟨b, 1, none⟩ v1).setCell ⟨b, 2, none⟩ v2).cell? ⟨b, 1, none⟩ = some v1 ∧
    (((w.setCell ⟨b, 0, none⟩ v0).setCell ⟨b, 1, none⟩ v1).setCell ⟨b, 2, none⟩ v2).cell? ⟨b, 2, none⟩ = some v2 := by
  simp [World.cell?_setCell_other, World.cell?_setCell_same, *]
theorem touch3 (w : World) (b : Nat) (v0 v1 v2 : Value) : Touch w (((w.setCell ⟨b, 0, none⟩ v0).setCell ⟨b, 1, none⟩ v1).setCell ⟨b, 2, none⟩ v2) (fun k => k = b) :=
  Touch.setCell (S := fun k => k = b) (Touch.setCell (S := fun k => k = b) (Touch.setCell (S := fun k => k = b) (Touch.refl w _) ⟨b, 0, none⟩ (.inl rfl) v0) ⟨b, 1, none⟩ (.inl rfl) v1) ⟨b, 2, none⟩ (.inl rfl) v2
def memBlk (bm bw : Nat) : Rl → Nat := fun r => match r with | .mem => bm | .words => bw | _ => 0
def memRow (n bw : Nat) (f : Nat → Int) : Rl → Option Row := fun r => match r with | .mem => some ⟨110, 1, fun _ => .slice (some ⟨bw, 0, none⟩) n n⟩ | .words => some ⟨115, n, fun i => .int .u64 (f i)⟩ | _ => none
theorem mem_has {w : World} {bm bw n base : Nat} {f : Nat → Int} (h : IsMem w bm bw n f) (h1 : base ≤ bm) (h2 : base ≤ bw) : Has w base (memBlk bm bw) (memRow n bw f) := by
  have hne := h.ne
  refine ⟨fun r r' x x' e e' hb => ?_, fun r x e => ?_, fun r x e => ?_⟩
  · cases r <;> cases r' <;> simp [memBlk, memRow] at e e' hb ⊢ <;> omega
  · cases r <;> simp [memRow] at e
    · subst e; exact h.head
    · subst e; exact h.row
  · cases r <;> simp [memRow] at e
    · exact h1
    · exact h2
theorem mem_none {n bw : Nat} {f : Nat → Int} (r : Rl) (h1 : r ≠ .mem) (h2 : r ≠ .words) : memRow n bw f r = none := by cases r <;> simp [memRow] at h1 h2 ⊢
theorem SeesB.drewN {w : World} {B : Nat} {ao : Option Addr} {n : Nat} {g : Nat → Bool} (h : SeesB w B ao n g) (m : Nat) : SeesB (w.drewN m) B ao n g := h
theorem Has.drewN {ι : Type} {w : World} {base : Nat} {blk : ι → Nat} {c : ι → Option Row} (h : Has w base blk c) (m : Nat) : Has (w.drewN m) base blk c := ⟨h.inj, fun r x e => h.row r x e, h.new⟩
theorem below_drewN {B : Nat} {a w : World} (h : Below B a w) (m : Nat) : Below B a (w.drewN m) := ⟨h.os, h.tape, h.output, h.size, h.block⟩
theorem Has.base_le {ι : Type} {w : World} {base base' : Nat} {blk : ι → Nat} {c : ι → Option Row} (h : Has w base blk c) (hb : base' ≤ base) : Has w base' blk c :=
  ⟨h.inj, h.row, fun r x e => Nat.le_trans hb (h.new r x e)⟩
end
end Go.Proofs.YtidihnnmdmlgfaaGreat
