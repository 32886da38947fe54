/-
  Lemmas: RSameG.
-/
import Derived.Test.YtgaafdfekgnccaaTp21
/-
  The reference's comparison of answers; a told run as it is seen.
-/
namespace Go.Proofs.Ytgaafdfekgnccaa
open Go.RowKit
set_option linter.unusedVariables false
set_option linter.unusedSimpArgs false
set_option linter.unnecessarySimpa false
set_option maxRecDepth 20000

/-- Answers as they are seen: hand h's slice, its answers. -/
def SeesA (w : World) (B : Nat) (ao : Option Addr) (nh : Nat) (dn : Nat → Nat) (an : Nat → Nat → Ans) : Prop :=
  ∀ h, h < nh → ∃ b off av cap, ao = some ⟨b, off, none⟩ ∧ b < B ∧ w.cell? ⟨b, off + h, none⟩ = some (.slice av (dn h) cap) ∧ ∀ j, j < dn h → ∃ b' off', av = some ⟨b', off', none⟩ ∧ b' < B ∧ ∀ i, i < 2 → w.cell? ⟨b', off' + j * 2 + i, none⟩ = some (Ans.cell (an h j) i)

theorem SeesA.below {w w' : World} {B C : Nat} {ao : Option Addr} {nh : Nat} {dn : Nat → Nat} {an : Nat → Nat → Ans} (S : SeesA w B ao nh dn an) (hb : Below C w w') (hBC : B ≤ C) : SeesA w' B ao nh dn an := fun h hh => by
  obtain ⟨b, off, av, cap, e, hl, hc, hj⟩ := S h hh
  refine ⟨b, off, av, cap, e, hl, (hb.cell (p := ⟨b, off + h, none⟩) (by show b < C; omega)).trans hc, fun j hjj => ?_⟩
  obtain ⟨b', off', e', hl', hc'⟩ := hj j hjj
  exact ⟨b', off', e', hl', fun i hi => (hb.cell (p := ⟨b', off' + j * 2 + i, none⟩) (by show b' < C; omega)).trans (hc' i hi)⟩
theorem SeesA.mono {w : World} {B C : Nat} {ao : Option Addr} {nh : Nat} {dn : Nat → Nat} {an : Nat → Nat → Ans} (S : SeesA w B ao nh dn an) (hBC : B ≤ C) : SeesA w C ao nh dn an := fun h hh => by
  obtain ⟨b, off, av, cap, e, hl, hc, hj⟩ := S h hh
  exact ⟨b, off, av, cap, e, by omega, hc, fun j hjj => by obtain ⟨b', off', e', hl', hc'⟩ := hj j hjj; exact ⟨b', off', e', by omega, hc'⟩⟩

/-- A grown slice of steps, as it is seen. -/
theorem Grows.seesS {blk : Rl → Nat} {c : Rl → Option Row} {k : Nat} {s : Nat → Stp} {w : World} {base : Nat} {sa : Option Addr} {sc : Nat} (h : Grows blk c .steps 122 6 k (stepCells s k) (.slice sa k sc)) (H : Has w base blk c) : SeesS w w.heap.size sa k s := fun j hj => by
  obtain ⟨b, cap, e, hl, _, hc⟩ := grows_cell h H (stepCells_length _ _) (by omega)
  injection e with e1 _ _
  refine ⟨b, 0, e1, hl, fun i hi => ?_⟩
  rw [Nat.zero_add]
  exact hc _ _ (stepCells_get s k j i hj hi)
/-- The answers, as they are seen. -/
theorem seesA_of {blk : Rl → Nat} {c : Rl → Option Row} {K : Kd} {st : St K} {P : Par} {w : World} {base : Nat} (h : ∃ A, c .answers = some ⟨51, P.nh, A⟩ ∧ ∀ h, h < P.nh → Grows blk c (.arow h) 53 2 (st.done h) (ansCells (st.ans h) (st.done h)) (A h)) (H : Has w base blk c) :
    SeesA w w.heap.size (some ⟨blk .answers, 0, none⟩) P.nh st.done st.ans := fun h' hh => by
  obtain ⟨A, eA, hA⟩ := h
  obtain ⟨av, cv, ev⟩ := (hA h' hh).isSlice
  refine ⟨_, 0, av, cv, rfl, H.lt eA, ?_, fun j hj => ?_⟩
  · rw [Nat.zero_add, ← ev]; exact H.cell eA (i := h') hh
  · obtain ⟨b, cap, e, hl, _, hc⟩ := grows_cell (hA h' hh) H (ansCells_length _ _) (by omega)
    rw [ev] at e
    injection e with e1 _ _
    refine ⟨b, 0, e1, hl, fun i hi => ?_⟩
    rw [Nat.zero_add]
    exact hc _ _ (ansCells_get (st.ans h') (st.done h') j i hj hi)
theorem first_not (p : Nat → Prop) : ∀ n, (∀ i, i < n → p i) ∨ ∃ i, i < n ∧ ¬ p i ∧ ∀ j, j < i → p j
  | 0 => .inl (fun i hi => absurd hi (Nat.not_lt_zero i))
  | n + 1 => by
    rcases first_not p n with h | ⟨i, hi, h1, h2⟩
    · by_cases hp : p n
      · exact .inl (fun i hi => by rcases Nat.lt_or_ge i n with l | l; exact h i l; obtain rfl : i = n := (by omega); exact hp)
      · exact .inr ⟨n, by omega, hp, h⟩
    · exact .inr ⟨i, by omega, h1, h2⟩
theorem allOk_or (K : Kd) (P : Par) : AllOk K P ∨ ∃ e, FirstErr K P e := by
  rcases first_not (fun h => ∀ j, j < P.jn h → K.err h (P.jb h j) = 0) P.nh with h | ⟨H, hH, h1, h2⟩
  · exact .inl h
  · rcases first_not (fun j => K.err H (P.jb H j) = 0) (P.jn H) with h | ⟨J, hJ, h3, h4⟩
    · exact absurd h h1
    · exact .inr ⟨_, H, J, hH, hJ, rfl, h3, h2, h4⟩
theorem ErrOf.one {K : Kd} {P : Par} {most e e' : Int} (h : ErrOf K P most e) (h' : ErrOf K P most e') : e = e' := by
  have neg : ¬ (LongHands P.nh P.jn ∨ 65536 < P.ns ∨ 65536 < most) ∨ (LongHands P.nh P.jn ∨ 65536 < P.ns ∨ 65536 < most) := (Classical.em _).symm
  rcases h with ⟨a1, rfl⟩ | ⟨a1, a2, rfl⟩ | ⟨a1, a2, a3, a4, rfl⟩ | ⟨⟨a1, a2, a3, a4, a5⟩, a6⟩ <;> rcases h' with ⟨b1, rfl⟩ | ⟨b1, b2, rfl⟩ | ⟨b1, b2, b3, b4, rfl⟩ | ⟨⟨b1, b2, b3, b4, b5⟩, b6⟩
  all_goals first
    | rfl
    | (exfalso; omega)
    | (exfalso; rcases a2 with a2 | a2 | a2; exact b2 a2; omega; omega)
    | (exfalso; rcases b2 with b2 | b2 | b2; exact a2 b2; omega; omega)
    | exact a6.one b6
theorem ErrOf.not {K : Kd} {P : Par} {most e : Int} (h : ErrOf K P most e) : ¬ (Fine P most ∧ AllOk K P) := by
  rintro ⟨⟨b1, b2, b3, b4, b5⟩, b6⟩
  rcases h with ⟨a1, _⟩ | ⟨a1, a2, _⟩ | ⟨a1, a2, a3, a4, _⟩ | ⟨_, a6⟩
  · omega
  · rcases a2 with a2 | a2 | a2
    · exact b2 a2
    · omega
    · omega
  · omega
  · exact a6.not b6

end Go.Proofs.Ytgaafdfekgnccaa
