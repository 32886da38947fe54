/-
  Every act by its own method tells what the step says.
-/
import Derived.Test.YtfggjnjndemipaaCalledS
import Derived.Test.YtfggjnjndemipaaCalledA
import Derived.Test.YtfggjnjndemipaaCalledC
namespace Go.Proofs.Ytfggjnjndemipaa
open Go.RowKit
set_option linter.unusedVariables false
set_option linter.unusedSimpArgs false
section
variable {w : World} {bm bw n : Nat} {f : Nat → Int}

/-- An act by its own method, for every memory and every act. -/
theorem called_any (hm : IsMem w bm bw n f) (a : Stp) (hv : a.wf) :
    Calls Try.prog 17 #[.pointer (some ⟨bm, 0, none⟩), a.val, (stepOf n f a).val] w
      fun e w' => e = .returned (.bool true) ∧ IsMem w' bm bw n (wordsOf n f a) ∧ w.grownBy w' (some bw) := by
  by_cases h2 : a.act = 2
  · exact called_store hm a _ _ h2 hv rfl rfl
  by_cases h3 : a.act = 3
  · exact called_swap hm a _ _ h3 hv rfl rfl
  by_cases h4 : a.act = 4
  · exact called_add hm a _ _ h4 hv rfl rfl
  by_cases h5 : a.act = 5
  · exact called_cas hm a _ _ h5 hv rfl rfl
  exact called_load hm a _ _ (by omega) hv rfl rfl
end
end Go.Proofs.Ytfggjnjndemipaa
