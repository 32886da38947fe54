/-
  An act by its own method tells what the step says.
-/
import Derived.Test.YtfggjnjndemipaaScripts
namespace Go.Proofs.Ytfggjnjndemipaa
open Go.RowKit
set_option linter.unusedVariables false
set_option linter.unusedSimpArgs false
section
variable {w : World} {bm bw n : Nat} {f : Nat → Int}

theorem kept2 {w w' : World} {bw : Nat} {o1 o2 : Obj} (lw : bw < w.heap.size) (hg : (((w.alloc o1).alloc o2).drew).grownBy w' (some bw)) (q i : Nat) (hq : q = w.heap.size ∨ q = w.heap.size + 1) : w'.cell? ⟨q, i, none⟩ = ((w.alloc o1).alloc o2).cell? ⟨q, i, none⟩ :=
  World.cell?_of_block (w := ((w.alloc o1).alloc o2).drew) (hg.block q (by simp; omega) (by simp; omega))
theorem kept2' {w w' : World} {bw : Nat} {o1 o2 : Obj} (lw : bw < w.heap.size) (hg : ((w.alloc o1).alloc o2).grownBy w' (some bw)) (q i : Nat) (hq : q = w.heap.size ∨ q = w.heap.size + 1) : w'.cell? ⟨q, i, none⟩ = ((w.alloc o1).alloc o2).cell? ⟨q, i, none⟩ :=
  World.cell?_of_block (w := (w.alloc o1).alloc o2) (hg.block q (by simp; omega) (by simp; omega))
theorem grown2 {w w' : World} {bw : Nat} {o1 o2 : Obj} (hg : (((w.alloc o1).alloc o2).drew).grownBy w' (some bw)) : w.grownBy w' (some bw) :=
  grown_trans (grown_drew (grown_alloc (grown_alloc (grown_refl _ _) _) _)) hg
theorem grown2' {w w' : World} {bw : Nat} {o1 o2 : Obj} (hg : ((w.alloc o1).alloc o2).grownBy w' (some bw)) : w.grownBy w' (some bw) :=
  grown_trans (grown_alloc (grown_alloc (grown_refl _ _) _) _) hg

/-! The methods, their answers by the step. -/
theorem store_stp (hm : IsMem w bm bw n f) (a s : Stp) (g : Nat → Int) (ha : a.act = 2) (hv : a.wf) (hs : stepOf n f a = s) (hg : wordsOf n f a = g) :
    Calls Try.prog 31 #[.pointer (some ⟨bm, 0, none⟩), .int .i64 a.at_, .int .u64 a.put] w fun e w' => e = .returned (.tuple #[]) ∧ IsMem w' bm bw n g ∧ w.grownBy w' (some bw) := by
  refine (store_mem hm _ _ hv.2).mono ?_
  rintro e w' ⟨rfl, h1, h2⟩
  refine ⟨rfl, ?_, h2⟩
  rw [← hg]
  by_cases h : 0 ≤ a.at_ ∧ a.at_ < n
  · rw [if_pos h] at h1
    simpa [wordsOf, h, stepOf, ha, actOf, putBy] using h1
  · rw [if_neg h] at h1
    simpa [wordsOf, h] using h1
theorem swap_stp (hm : IsMem w bm bw n f) (a s : Stp) (g : Nat → Int) (ha : a.act = 3) (hv : a.wf) (hs : stepOf n f a = s) (hg : wordsOf n f a = g) :
    Calls Try.prog 32 #[.pointer (some ⟨bm, 0, none⟩), .int .i64 a.at_, .int .u64 a.put] w fun e w' => e = .returned (.int .u64 s.had) ∧ IsMem w' bm bw n g ∧ w.grownBy w' (some bw) := by
  refine (swap_mem hm _ _ hv.2).mono ?_
  rintro e w' ⟨rfl, h1, h2⟩
  rw [← hg, ← hs]
  by_cases h : 0 ≤ a.at_ ∧ a.at_ < n
  · rw [if_pos h] at h1 ⊢
    exact ⟨by simp [stepOf, h], by simpa [wordsOf, h, stepOf, ha, actOf, putBy] using h1, h2⟩
  · rw [if_neg h] at h1 ⊢
    exact ⟨by simp [stepOf, h], by simpa [wordsOf, h] using h1, h2⟩
theorem add_stp (hm : IsMem w bm bw n f) (a s : Stp) (g : Nat → Int) (ha : a.act = 4) (hv : a.wf) (hs : stepOf n f a = s) (hg : wordsOf n f a = g) :
    Calls Try.prog 23 #[.pointer (some ⟨bm, 0, none⟩), .int .i64 a.at_, .int .u64 a.put] w fun e w' => e = .returned (.int .u64 s.put) ∧ IsMem w' bm bw n g ∧ w.grownBy w' (some bw) := by
  refine (add_mem hm _ _).mono ?_
  rintro e w' ⟨rfl, h1, h2⟩
  rw [← hg, ← hs]
  by_cases h : 0 ≤ a.at_ ∧ a.at_ < n
  · rw [if_pos h] at h1 ⊢
    exact ⟨by simp [stepOf, h, ha, actOf, putBy], by simpa [wordsOf, h, stepOf, ha, actOf, putBy] using h1, h2⟩
  · rw [if_neg h] at h1 ⊢
    exact ⟨by simp [stepOf, h], by simpa [wordsOf, h] using h1, h2⟩
theorem cas_stp (hm : IsMem w bm bw n f) (a s : Stp) (g : Nat → Int) (ha : a.act = 5) (hv : a.wf) (hs : stepOf n f a = s) (hg : wordsOf n f a = g) :
    Calls Try.prog 24 #[.pointer (some ⟨bm, 0, none⟩), .int .i64 a.at_, .int .u64 a.had, .int .u64 a.put] w fun e w' => e = .returned (.bool s.ok) ∧ IsMem w' bm bw n g ∧ w.grownBy w' (some bw) := by
  refine (cas_mem hm _ _ _ hv.2).mono ?_
  rintro e w' ⟨rfl, h1, h2⟩
  rw [← hg, ← hs]
  by_cases h : 0 ≤ a.at_ ∧ a.at_ < n
  · by_cases hf : f a.at_.toNat = a.had
    · rw [if_pos ⟨h, hf⟩] at h1
      exact ⟨by simp [stepOf, h, ha, actOf, hf], by simpa [wordsOf, h, stepOf, ha, actOf, putBy, hf] using h1, h2⟩
    · rw [if_neg (fun x => hf x.2)] at h1
      exact ⟨by simp [stepOf, h, ha, actOf, hf], by simpa [wordsOf, h, stepOf, ha, actOf, putBy, hf, putF_self] using h1, h2⟩
  · rw [if_neg (fun x => h x.1)] at h1
    exact ⟨by simp [stepOf, h, ha, actOf], by simpa [wordsOf, h] using h1, h2⟩
theorem load_stp (hm : IsMem w bm bw n f) (a s : Stp) (ha : actOf a.act = 1) (hs : stepOf n f a = s) :
    Calls Try.prog 22 #[.pointer (some ⟨bm, 0, none⟩), .int .i64 a.at_] w fun e w' => e = .returned (.int .u64 s.put) ∧ w' = w := by
  refine (load_mem hm _).mono ?_
  rintro e w' ⟨rfl, h2⟩
  rw [← hs]
  by_cases h : 0 ≤ a.at_ ∧ a.at_ < n
  · exact ⟨by simp [stepOf, h, ha, putBy], h2⟩
  · exact ⟨by simp [stepOf, h], h2⟩
theorem words_load (a : Stp) (ha : actOf a.act = 1) : wordsOf n f a = f := by
  unfold wordsOf
  split
  · rename_i h
    simp [stepOf, h, ha, putBy, putF_self]
  · rfl
/-- Behind the act the word that it touched is what the step says. -/
theorem load_behind (a s : Stp) (g : Nat → Int) (hs : stepOf n f a = s) (hg : wordsOf n f a = g) (hm : IsMem w bm bw n g) :
    Calls Try.prog 22 #[.pointer (some ⟨bm, 0, none⟩), .int .i64 a.at_] w fun e w' => e = .returned (.int .u64 s.put) ∧ w' = w := by
  refine (load_mem hm _).mono ?_
  rintro e w' ⟨rfl, h2⟩
  rw [← hs, ← hg]
  by_cases h : 0 ≤ a.at_ ∧ a.at_ < n
  · exact ⟨by simp [wordsOf, h, putF], h2⟩
  · exact ⟨by simp [stepOf, h], h2⟩

theorem IsMem.drewN (h : IsMem w bm bw n f) (m : Nat) : IsMem (w.drewN m) bm bw n f := ⟨h.head.of_block rfl, h.row.of_block rfl, h.most, h.word⟩
theorem grown_drewN {w w' : World} {r : Option Nat} (h : w.grownBy w' r) (m : Nat) : w.grownBy (w'.drewN m) r := ⟨h.os, h.tape, h.output, h.size, h.block⟩

set_option maxHeartbeats 1600000 in
theorem called_store (hm : IsMem w bm bw n f) (a s : Stp) (g : Nat → Int) (ha : a.act = 2) (hv : a.wf) (hs : stepOf n f a = s) (hg : wordsOf n f a = g) :
    Calls Try.prog 17 #[.pointer (some ⟨bm, 0, none⟩), a.val, s.val] w
      fun e w' => e = .returned (.bool true) ∧ IsMem w' bm bw n g ∧ w.grownBy w' (some bw) := by
  have lw := hm.row.lt
  unfold Stp.val
  have HA := hide ha
  rw [ha]
  clear ha
  have HS := hide hs
  have HG := hide hg
  clear hs hg
  go_enter Try.func17, Try.ntmps17
  go_wp2_with fail
  refine (store_stp ((hm.alloc _).alloc _) a s g HA.out hv HS.out HG.out).mono ?_
  rintro e w' ⟨rfl, hm', hg'⟩
  have hk := kept2' lw hg' (w.heap.size + 1) 4 (Or.inr rfl)
  have hk2 := kept2' lw hg' w.heap.size 2 (Or.inl rfl)
  simp at hk hk2
  have HM' := hide hm'
  have HG' := hide (grown2' hg')
  clear hm' hg'
  go_wp2_with fail
  go_quiet ((go_at_call 22; exact Calls.quiet_of_same (load_behind a s g HS.out HG.out (HM'.out.drewN _))))
  go_wp2
  go_ret
  exact ⟨rfl, HM'.out.drewN _, grown_drewN HG'.out _⟩

set_option maxHeartbeats 1600000 in
theorem called_load (hm : IsMem w bm bw n f) (a s : Stp) (g : Nat → Int) (ha : a.act = 1 ∨ a.act < 1 ∨ 5 < a.act) (hv : a.wf) (hs : stepOf n f a = s) (hg : wordsOf n f a = g) :
    Calls Try.prog 17 #[.pointer (some ⟨bm, 0, none⟩), a.val, s.val] w
      fun e w' => e = .returned (.bool true) ∧ IsMem w' bm bw n g ∧ w.grownBy w' (some bw) := by
  have lw := hm.row.lt
  have h1 : actOf a.act = 1 := by unfold actOf; split <;> omega
  have hfg : g = f := by rw [← hg]; exact words_load a h1
  subst hfg
  unfold Stp.val
  have e2 : (a.act == 2) = false := by simp; omega
  have e3 : (a.act == 3) = false := by simp; omega
  have e4 : (a.act == 4) = false := by simp; omega
  have e5 : (a.act == 5) = false := by simp; omega
  have HS := hide hs
  have HG := hide hg
  clear hs hg ha
  go_enter Try.func17, Try.ntmps17
  go_wp2_with fail
  go_quiet ((go_at_call 22; exact Calls.quiet_of_same (load_stp (((hm.alloc _).alloc _).drewN _) a s h1 HS.out)))
  go_wp2
  go_ret
  exact ⟨rfl, ((hm.alloc _).alloc _).drewN _, grown_drewN (grown_alloc (grown_alloc (grown_refl _ _) _) _) _⟩

end
end Go.Proofs.Ytfggjnjndemipaa
