/-
  The chapter's own example, reckoned: two hands, three adds each, by 1 -1 2.
-/
import Derived.Test.YtdbiphibdaghkaaPlay0
namespace Go.Proofs.Ytdbiphibdaghkaa
set_option linter.unusedVariables false
namespace Exam

def P0 : Par := { n := 1, nh := 2, jn := fun _ => 3, jb := fun _ _ => ⟨4, 0, 0, 0, 1⟩, ns := 3, sched := fun i => if i = 0 then 1 else if i = 1 then -1 else 2 }
def s0 : St kAct := st0 kAct P0 (fun _ => 0)
def s1 : St kAct := stepSt P0 s0 1
def s2 : St kAct := stepSt P0 s1 1
def s3 : St kAct := stepSt P0 s2 0
def s4 : St kAct := stepSt P0 s3 1
def s5 : St kAct := stepSt P0 s4 0
def s6 : St kAct := stepSt P0 s5 0

theorem t0 : s0.turn P0 = (1 : Nat) := by decide +kernel
theorem t1 : s1.turn P0 = (1 : Nat) := by decide +kernel
theorem t2 : s2.turn P0 = (0 : Nat) := by decide +kernel
theorem t3 : s3.turn P0 = (1 : Nat) := by decide +kernel
theorem t4 : s4.turn P0 = (0 : Nat) := by decide +kernel
theorem t5 : s5.turn P0 = (0 : Nat) := by decide +kernel
theorem t6 : s6.turn P0 < 0 := by decide +kernel

theorem r1 : runSt P0 s0 1 = s1 := runSt_step (m := 0) t0
theorem r2 : runSt P0 s0 2 = s2 := by have := runSt_step (P := P0) (st := s0) (m := 1) (h := 1) (by rw [r1]; exact t1); rw [this, r1]; rfl
theorem r3 : runSt P0 s0 3 = s3 := by have := runSt_step (P := P0) (st := s0) (m := 2) (h := 0) (by rw [r2]; exact t2); rw [this, r2]; rfl
theorem r4 : runSt P0 s0 4 = s4 := by have := runSt_step (P := P0) (st := s0) (m := 3) (h := 1) (by rw [r3]; exact t3); rw [this, r3]; rfl
theorem r5 : runSt P0 s0 5 = s5 := by have := runSt_step (P := P0) (st := s0) (m := 4) (h := 0) (by rw [r4]; exact t4); rw [this, r4]; rfl
theorem r6 : runSt P0 s0 6 = s6 := by have := runSt_step (P := P0) (st := s0) (m := 5) (h := 0) (by rw [r5]; exact t5); rw [this, r5]; rfl
theorem r100 : runSt P0 s0 100 = s6 := by have := runSt_stuck (P := P0) (st := s0) (m := 6) (by rw [r6]; exact t6) 94; rw [r6] at this; exact this

theorem k6 : s6.k = 6 := by decide +kernel
theorem e6 : cnt (s6.going P0) P0.nh = 0 := by decide +kernel
theorem w6 : s6.f 0 = 6 := by decide +kernel
theorem d6 : s6.done 0 = 3 ∧ s6.done 1 = 3 := by decide +kernel
theorem h6 : (s6.s 0).hand = 1 ∧ (s6.s 1).hand = 1 ∧ (s6.s 2).hand = 0 := by decide +kernel
theorem a6 : (s6.ans 1 1).val = 1 := by decide +kernel
end Exam
end Go.Proofs.Ytdbiphibdaghkaa
