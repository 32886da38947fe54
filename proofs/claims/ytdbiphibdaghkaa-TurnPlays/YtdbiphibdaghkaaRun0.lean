/-
  The run's beginning, its picks and its end, whatever the kind of tasks.
-/
import Derived.Test.YtdbiphibdaghkaaMade
import Derived.Deep.QuietTactic
import Derived.BigQuiet
namespace Go.Proofs.Ytdbiphibdaghkaa
open Go.RowKit
set_option linter.unusedVariables false
set_option linter.unusedSimpArgs false
set_option maxRecDepth 20000

variable {K : Kd} {w : World} {base B : Nat} {P : Par} {blk : Rl → Nat} {c : Rl → Option Row} {st : St K}

theorem Good.seesGoing (G : Good K P blk c st) (H : Has w base blk c) : SeesB w w.heap.size (some ⟨blk .going, 0, none⟩) P.nh (st.going P) := by
  obtain ⟨Gf, eG, hG⟩ := G.going
  intro j hj
  refine ⟨blk .going, 0, rfl, H.lt eG, ?_⟩
  have := H.cell eG (i := j) hj
  simp only [hG j hj] at this
  simpa using this

theorem ended_any (G : Good K P blk c st) (H : Has w base blk c) :
    Calls Try.prog 50 #[.pointer (some ⟨blk .run, 0, none⟩)] w fun e w' => e = .returned (.bool (decide (cnt (st.going P) P.nh = 0))) ∧ w' = w := by
  have hs := G.seesGoing H
  obtain ⟨sv, RF, eR, R0, R1, R2, R3, R4, GS⟩ := G.run
  have r1 := H.cell eR (i := 1) (by simp)
  simp only [R1] at r1
  have hn := G.hands
  have hcl := cnt_le (st.going P) P.nh
  obtain ⟨b, hb⟩ : ∃ b, decide (cnt (st.going P) P.nh = 0) = b := ⟨_, rfl⟩
  rw [hb]
  have HS := hide hs
  have HB := hide hb
  clear H G GS hs hb
  go_enter Try.func50, Try.ntmps50
  go_wp2_with (go_at_call 74; refine (count_any HS.out (by omega)).mono ?_; rintro e w' ⟨rfl, hw⟩; obtain rfl := hw.symm)
  go_ret
  refine ⟨?_, rfl⟩
  rw [← HB.out]
  show Ending.returned (Value.bool ((cnt (st.going P) P.nh : Int) == 0)) = _
  congr 2
  rw [Bool.eq_iff_iff]
  simp

theorem pick_any {ao : Option Addr} {cap : Nat} (G : Good K P blk c st) (H : Has w base blk c) (S : SeesI w B ao P.ns P.sched) :
    Calls Try.prog 47 #[.pointer (some ⟨blk .run, 0, none⟩), .slice ao P.ns cap] w fun e w' => e = .returned (.int .i64 (st.turn P)) ∧ ∃ m, w' = w.drewN m := by
  have hs := G.seesGoing H
  obtain ⟨sv, RF, eR, R0, R1, R2, R3, R4, GS⟩ := G.run
  have r1 := H.cell eR (i := 1) (by simp)
  have r2 := H.cell eR (i := 2) (by simp)
  have r3 := H.cell eR (i := 3) (by simp)
  simp only [R1] at r1
  simp only [R2] at r2
  simp only [R3] at r3
  obtain ⟨sa, scap, rfl⟩ : ∃ sa scap, sv = .slice sa st.k scap := by
    rcases GS with ⟨h0, rfl, _⟩ | ⟨cap', F, rfl, _⟩
    · rw [h0]; exact ⟨none, 0, rfl⟩
    · exact ⟨_, _, rfl⟩
  have hn := G.hands
  have hl := G.lastOk
  have HS := hide hs
  obtain ⟨t, ht⟩ : ∃ t, st.turn P = t := ⟨_, rfl⟩
  rw [ht]
  unfold St.turn at ht
  clear H G GS hs
  by_cases hk : st.k < P.ns
  · rw [if_pos hk] at ht
    obtain ⟨b, off, rfl, hbl, hcc⟩ := S _ hk
    have hkn : (st.k : Int) < (P.ns : Int) := by omega
    subst ht
    go_enter Try.func47, Try.ntmps47
    go_wp2_with fail
    go_quiet ((go_at_call 70; exact Calls.quiet_of_same (next_any (show SeesB (w.drewN _) _ _ _ _ from HS.out) (by omega) _)))
    go_wp2_with fail
    go_ret
    exact ⟨rfl, _, rfl⟩
  · rw [if_neg hk] at ht
    have hkn : ¬ (st.k : Int) < (P.ns : Int) := by omega
    subst ht
    go_enter Try.func47, Try.ntmps47
    go_wp2_with fail
    go_quiet ((go_at_call 71; exact Calls.quiet_of_same (behind_any (show SeesB (w.drewN _) _ _ _ _ from HS.out) (by omega) _ hl.1 hl.2)))
    go_wp2_with fail
    go_ret
    exact ⟨rfl, _, rfl⟩
end Go.Proofs.Ytdbiphibdaghkaa
