/-
  Lemmas: PlayAllG.
-/
import Derived.Test.YtgaafdfekgnccaaTp18
/-
  Play, whatever the kind of tasks and whatever it is given: an error, or the run.
-/
namespace Go.Proofs.Ytgaafdfekgnccaa
open Go.RowKit
set_option linter.unusedVariables false
set_option linter.unusedSimpArgs false

def Fine (P : Par) (most : Int) : Prop := P.n ≤ 4096 ∧ ¬ LongHands P.nh P.jn ∧ P.ns ≤ 65536 ∧ 0 ≤ most ∧ most ≤ 65536
/-- The error that is told. -/
def ErrOf (K : Kd) (P : Par) (most er : Int) : Prop :=
  (4096 < P.n ∧ er = 1) ∨ (P.n ≤ 4096 ∧ (LongHands P.nh P.jn ∨ 65536 < P.ns ∨ 65536 < most) ∧ er = 1) ∨ (P.n ≤ 4096 ∧ ¬ LongHands P.nh P.jn ∧ P.ns ≤ 65536 ∧ most < 0 ∧ er = 2) ∨ (Fine P most ∧ FirstErr K P er)
theorem ErrOf.ne {K : Kd} {P : Par} {most er : Int} (h : ErrOf K P most er) : er ≠ 0 := by
  rcases h with ⟨_, rfl⟩ | ⟨_, _, rfl⟩ | ⟨_, _, _, _, rfl⟩ | ⟨_, _, _, _, _, _, h, _⟩
  · decide
  · decide
  · decide
  · exact h

namespace OfAny
variable {K : Kd} {mk : Value} {w : World} {ao aoh aos : Option Addr} {cap caph caps : Nat} {P : Par} {f : Nat → Int} {most : Int}

def AllB (K : Kd) (w : World) (P : Par) (f : Nat → Int) (most : Int) (e : Ending) (w' : World) : Prop :=
  Below w.heap.size w w' ∧ ((∃ er, ErrOf K P most er ∧ e = .returned (errVal er)) ∨ (Fine P most ∧ AllOk K P ∧ ∃ v, e = .returned v ∧ Told K P (runSt P (st0 K P f) most.toNat) (w.heap.size + 1) v w'))

theorem play_all (S : Sees w w.heap.size ao P.n f) (hf : ∀ i, i < P.n → 0 ≤ f i ∧ f i ≤ 18446744073709551615) (SH : SeesH w w.heap.size aoh P.nh P.jn P.jb) (hn63 : P.nh ≤ 9223372036854775807) (SI : SeesI w w.heap.size aos P.ns P.sched) (hjw : ∀ h, h < P.nh → ∀ j, j < P.jn h → (P.jb h j).wf) (IK : IsKind K) (MK : ∀ w', Below w.heap.size w w' → MakesAt K mk w') :
    Calls Try.prog 21 #[.slice ao P.n cap, .slice aoh P.nh caph, .slice aos P.ns caps, .int .i64 most, mk] w (AllB K w P f most) := by
  by_cases h1 : 4096 < P.n
  · exact (play_words h1).mono fun e w' ⟨he, hb⟩ => ⟨hb, .inl ⟨1, .inl ⟨h1, rfl⟩, he⟩⟩
  · by_cases h2 : LongHands P.nh P.jn ∨ 65536 < P.ns ∨ 65536 < most
    · exact (play_err S hf (by omega) SH hn63 (er := 1) (by decide) (fun w' hb => checkRun_long ((SH.below ((Below.refl _ _).alloc (Nat.le_refl _) _) (Nat.le_refl _)).below hb (by omega)) hn63 most h2)).mono fun e w' ⟨he, hb⟩ => ⟨hb, .inl ⟨1, .inr (.inl ⟨by omega, h2, rfl⟩), he⟩⟩
    · have hl : ¬ LongHands P.nh P.jn := fun h => h2 (.inl h)
      have hs : P.ns ≤ 65536 := by rcases Nat.lt_or_ge 65536 P.ns with l | l; exact absurd (.inr (.inl l)) h2; exact l
      have hm : most ≤ 65536 := by rcases Int.lt_or_le 65536 most with l | l; exact absurd (.inr (.inr l)) h2; exact l
      by_cases h3 : most < 0
      · exact (play_err S hf (by omega) SH hn63 (er := 2) (by decide) (fun w' hb => checkRun_arg ((SH.below ((Below.refl _ _).alloc (Nat.le_refl _) _) (Nat.le_refl _)).below hb (by omega)) hl hs most h3)).mono fun e w' ⟨he, hb⟩ => ⟨hb, .inl ⟨2, .inr (.inr (.inl ⟨by omega, hl, hs, h3, rfl⟩)), he⟩⟩
      · obtain ⟨m, rfl⟩ : ∃ m : Nat, most = m := ⟨most.toNat, by omega⟩
        have hF : Fine P m := ⟨by omega, hl, hs, by omega, hm⟩
        refine (play_run S hf (by omega) SH hl SI hs m (by omega) hjw IK MK).mono fun e w' ⟨hb, hc⟩ => ⟨hb, ?_⟩
        rcases hc with ⟨hok, v, rfl, ht⟩ | ⟨er, hfe, rfl⟩
        · exact .inr ⟨hF, hok, v, rfl, by simpa using ht⟩
        · exact .inl ⟨er, .inr (.inr (.inr ⟨hF, hfe⟩)), rfl⟩
end OfAny
end Go.Proofs.Ytgaafdfekgnccaa
