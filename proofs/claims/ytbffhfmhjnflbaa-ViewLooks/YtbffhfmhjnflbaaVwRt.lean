/-
  View: the document's Sound is the package's
-/
import Derived.Test.YtbffhfmhjnflbaaVwRs
namespace Go.Proofs.Ytbffhfmhjnflbaa
open Go.RowKit
set_option linter.unusedVariables false
set_option linter.unusedSimpArgs false
set_option linter.unnecessarySimpa false
set_option maxRecDepth 20000
namespace Vw
open Shape

theorem lkE_cv (x : Sh) (f : Nat → Int) (i : Nat) : lkE (cv x f) (f i) = lst x f i 1 := rfl
theorem nxE_cv (x : Sh) (f : Nat → Int) (i : Nat) : nxE (cv x f) (f i) = lst x f i 2 := rfl
theorem sound_iff {x : Sh} {f : Nat → Int} (H : x.Ok) (hf : ∀ i, i < size x → 0 ≤ f i ∧ f i < 18446744073709551616) :
    ((cv x f).ph = 0 ∧ (lkE (cv x f) (f 1)).2 = 0 ∧ (lkE (cv x f) (f 2)).2 = 0 ∧ (nxE (cv x f) (f 3)).2 = 0 ∧ (cv x f).gr = [] ∧ (∀ j, j < (cv x f).no → Pk (cv x f) j) ∧ (∀ j, j < (cv x f).nr → ∀ i, i < (cv x f).rn j → hOk (cv x f) ((cv x f).rt j i)) ∧ (∀ i, i < (cv x f).nw → hOk (cv x f) ((cv x f).wk i))) ↔ Sound x f := by
  have hc := cv_ok H hf
  rw [lkE_cv, lkE_cv, nxE_cv]
  unfold Sound
  constructor
  · rintro ⟨h1, h2, h3, h4, h5, h6, h7, h8⟩
    refine ⟨h1, ⟨h2, h3, h4⟩, h5, fun j hj => (h6 j hj).1, fun i hi => ?_, ⟨h8, h7, fun j hj => (h6 j hj).2.2⟩⟩
    have hr := hc.qr i hi
    obtain ⟨j, rfl⟩ : ∃ j : Nat, i = (j : Int) + 1 := ⟨i.toNat - 1, by omega⟩
    exact (h6 j (by omega)).2.1 hi
  · rintro ⟨h1, ⟨h2, h3, h4⟩, h5, h6, h7, h8⟩
    exact ⟨h1, h2, h3, h4, h5, fun j hj => ⟨h6 j hj, fun hq => h7 _ hq, h8.ob j hj⟩, h8.rt, h8.wk⟩
theorem cv_links {x : Sh} {f : Nat → Int} (H : x.Ok) (hf : ∀ i, i < size x → 0 ≤ f i ∧ f i < 18446744073709551616) : ∀ j, j < (cv x f).no → (0 ≤ ((cv x f).ob j).lk ∧ ((cv x f).ob j).lk < 18446744073709551616) ∧ 0 ≤ ((cv x f).ob j).nx ∧ ((cv x f).ob j).nx < 18446744073709551616 := by
  intro j hj
  simp only [cv, obAt] at hj ⊢
  have h1 := (at_obj H hj).1
  simp only [ow] at h1
  exact ⟨hf _ (by simp only [pO, ow] at h1 ⊢; omega), hf _ (by simp only [pO, ow] at h1 ⊢; omega)⟩
/-- The document's Sound of a memory's view. -/
theorem sound13_cv {x : Sh} {a : Av} {w : World} {b off z cap : Nat} {f : Nat → Int} (H : x.Ok) (hz : size x = z) (hS : Shows w (cv x f) a) (hs : Sees w w.heap.size (some ⟨b, off, none⟩) z f) (hf : ∀ i, i < z → 0 ≤ f i ∧ f i < 18446744073709551616) : Calls Try.prog 36 #[vl (cv x f) a, .slice (some ⟨b, off, none⟩) z cap] w fun e w' => Tells e (Sound x f) ∧ Below w.heap.size w w' := by
  have h8 : 8 ≤ z := by rw [← hz]; have := lay_out x; omega
  rw [← hz] at hf
  have h := sound13 (cap := cap) hS (cv_ok H hf) (cv_links H hf) hs h8 (by rw [← hz]; exact hf)
  rw [propext (sound_iff H hf)] at h
  exact h
end Vw
end Go.Proofs.Ytbffhfmhjnflbaa
