/-
  A swap by its own method tells what the step says.
-/
import Derived.Test.YtfggjnjndemipaaCalled
namespace Go.Proofs.Ytfggjnjndemipaa
open Go.RowKit
set_option linter.unusedVariables false
set_option linter.unusedSimpArgs false
section
variable {w : World} {bm bw n : Nat} {f : Nat → Int}

set_option maxHeartbeats 16000000 in
theorem called_swap (hm : IsMem w bm bw n f) (a s : Stp) (g : Nat → Int) (ha : a.act = 3) (hv : a.wf) (hs : stepOf n f a = s) (hg : wordsOf n f a = g) :
    Calls Try.prog 17 #[.pointer (some ⟨bm, 0, none⟩), a.val, s.val] w
      fun e w' => e = .returned (.bool true) ∧ IsMem w' bm bw n g ∧ w.grownBy w' (some bw) := by
  have lw := hm.row.lt
  unfold Stp.val
  have HA := hide ha
  rw [ha]
  clear ha
  have HS := hide hs
  have HG := hide hg
  clear hs hg
  go_enter Try.func17, Try.ntmps17
  go_wp2_with fail
  go_region_with (go_at_call 32; refine (swap_stp ((hm.alloc _).alloc _).drew a s g HA.out hv HS.out HG.out).mono ?_; rintro e w' ⟨rfl, hm', hg'⟩; have hk := kept2 lw hg' (w.heap.size + 1) 3 (Or.inr rfl); simp at hk; have HM' := hide hm'; have HG' := hide (grown2 hg'); clear hm' hg')
  all_goals go_wp2
  all_goals go_ret
  all_goals exact ⟨rfl, HM'.out, HG'.out⟩

end
end Go.Proofs.Ytfggjnjndemipaa
