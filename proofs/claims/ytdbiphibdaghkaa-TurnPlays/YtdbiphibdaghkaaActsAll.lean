/-
  Acts, whatever it is given: an error, the one that the document names, or the run.
-/
import Derived.Test.YtdbiphibdaghkaaActs
namespace Go.Proofs.Ytdbiphibdaghkaa
open Go.RowKit
set_option linter.unusedVariables false
set_option linter.unusedSimpArgs false

def Fine (P : Par) (most : Int) : Prop := P.n ≤ 4096 ∧ ¬ LongHands P.nh P.jn ∧ P.ns ≤ 65536 ∧ 0 ≤ most ∧ most ≤ 65536
/-- The error that is told. -/
def ErrOf (K : Kd) (P : Par) (most er : Int) : Prop :=
  (4096 < P.n ∧ er = 1) ∨ (P.n ≤ 4096 ∧ (LongHands P.nh P.jn ∨ 65536 < P.ns ∨ 65536 < most) ∧ er = 1) ∨ (P.n ≤ 4096 ∧ ¬ LongHands P.nh P.jn ∧ P.ns ≤ 65536 ∧ most < 0 ∧ er = 2) ∨ (Fine P most ∧ FirstErr K P er)
theorem ErrOf.ne {K : Kd} {P : Par} {most er : Int} (h : ErrOf K P most er) : er ≠ 0 := by
  rcases h with ⟨_, rfl⟩ | ⟨_, _, rfl⟩ | ⟨_, _, _, _, rfl⟩ | ⟨_, _, _, _, _, _, h, _⟩
  · decide
  · decide
  · decide
  · exact h

namespace OfActs
variable {w : World} {ao aoh aos : Option Addr} {cap caph caps : Nat} {P : Par} {f : Nat → Int} {most : Int}

def AllB (w : World) (P : Par) (f : Nat → Int) (most : Int) (e : Ending) (w' : World) : Prop :=
  Below w.heap.size w w' ∧ ((∃ er, ErrOf kAct P most er ∧ e = .returned (errVal er)) ∨ (Fine P most ∧ AllOk kAct P ∧ ∃ v, e = .returned v ∧ Told kAct P (runSt P (st0 kAct P f) most.toNat) w.heap.size v w'))

theorem acts_all (S : Sees w w.heap.size ao P.n f) (hf : ∀ i, i < P.n → 0 ≤ f i ∧ f i ≤ 18446744073709551615) (SH : SeesH w w.heap.size aoh P.nh P.jn P.jb) (hn63 : P.nh ≤ 9223372036854775807) (SI : SeesI w w.heap.size aos P.ns P.sched) (hjw : ∀ h, h < P.nh → ∀ j, j < P.jn h → (P.jb h j).wf) :
    Calls Try.prog 11 #[.slice ao P.n cap, .slice aoh P.nh caph, .slice aos P.ns caps, .int .i64 most] w (AllB w P f most) := by
  have b0 : Below w.heap.size w (w.alloc (.cells #[.slice none 0 0, .slice none 0 0, .bool false] 28)) := (Below.refl _ w).alloc (Nat.le_refl _) _
  have S' : Sees (w.alloc (.cells #[.slice none 0 0, .slice none 0 0, .bool false] 28)) (w.alloc (.cells #[.slice none 0 0, .slice none 0 0, .bool false] 28)).heap.size ao P.n f := (S.below b0 (Nat.le_refl _)).mono (by simp)
  have up : ∀ {w' : World} {aoh nh jn jb}, SeesH w' w.heap.size aoh nh jn jb → w.heap.size ≤ w'.heap.size → SeesH w' w'.heap.size aoh nh jn jb := fun h hl i hi => by
    obtain ⟨b, off, ao', cap, e, hb, hc, hj⟩ := h i hi
    exact ⟨b, off, ao', cap, e, by omega, hc, fun q hq => by obtain ⟨b', off', e', hb', hc'⟩ := hj q hq; exact ⟨b', off', e', by omega, hc'⟩⟩
  have upI : ∀ {w' : World} {ao n s}, SeesI w' w.heap.size ao n s → w.heap.size ≤ w'.heap.size → SeesI w' w'.heap.size ao n s := fun h hl i hi => by
    obtain ⟨b, off, e, hb, hc⟩ := h i hi
    exact ⟨b, off, e, by omega, hc⟩
  have SH' := up (SH.below b0 (Nat.le_refl _)) (by simp)
  have SI' := upI (SI.below b0 (Nat.le_refl _)) (by simp)
  by_cases h1 : 4096 < P.n
  · exact (acts_err (play_words h1)).mono fun e w' ⟨he, hb⟩ => ⟨hb, .inl ⟨1, .inl ⟨h1, rfl⟩, he⟩⟩
  · by_cases h2 : LongHands P.nh P.jn ∨ 65536 < P.ns ∨ 65536 < most
    · exact (acts_err (play_err S' hf (by omega) SH' hn63 (er := 1) (by decide) (fun w' hb => checkRun_long ((SH'.below ((Below.refl _ _).alloc (Nat.le_refl _) _) (Nat.le_refl _)).below hb (by omega)) hn63 most h2))).mono fun e w' ⟨he, hb⟩ => ⟨hb, .inl ⟨1, .inr (.inl ⟨by omega, h2, rfl⟩), he⟩⟩
    · have hl : ¬ LongHands P.nh P.jn := fun h => h2 (.inl h)
      have hs : P.ns ≤ 65536 := by rcases Nat.lt_or_ge 65536 P.ns with l | l; exact absurd (.inr (.inl l)) h2; exact l
      have hm : most ≤ 65536 := by rcases Int.lt_or_le 65536 most with l | l; exact absurd (.inr (.inr l)) h2; exact l
      by_cases h3 : most < 0
      · exact (acts_err (play_err S' hf (by omega) SH' hn63 (er := 2) (by decide) (fun w' hb => checkRun_arg ((SH'.below ((Below.refl _ _).alloc (Nat.le_refl _) _) (Nat.le_refl _)).below hb (by omega)) hl hs most h3))).mono fun e w' ⟨he, hb⟩ => ⟨hb, .inl ⟨2, .inr (.inr (.inl ⟨by omega, hl, hs, h3, rfl⟩)), he⟩⟩
      · obtain ⟨m, rfl⟩ : ∃ m : Nat, most = m := ⟨most.toNat, by omega⟩
        have hF : Fine P m := ⟨by omega, hl, hs, by omega, hm⟩
        refine (acts_run (play_run S' hf (by omega) SH' hl SI' hs m (by omega) hjw)).mono fun e w' ⟨hb, hc⟩ => ⟨hb, ?_⟩
        rcases hc with ⟨hok, v, rfl, ht⟩ | ⟨er, hfe, rfl⟩
        · exact .inr ⟨hF, hok, v, rfl, by simpa using ht⟩
        · exact .inl ⟨er, .inr (.inr (.inr ⟨hF, hfe⟩)), rfl⟩
end OfActs
end Go.Proofs.Ytdbiphibdaghkaa
