/-
  Lemmas: Do.
-/
import Derived.Test.YtppgbndoijppnaaGreatTp01
import Derived.Deep.Light
import Derived.Laws.Bits64
namespace Go.Proofs.YtppgbndoijppnaaGreat
set_option maxHeartbeats 8000000
open Go.RowKit
set_option linter.unusedVariables false
set_option linter.unusedSimpArgs false
set_option maxRecDepth 20000
section
section
variable {w : World} {bm bw n : Nat} {f : Nat → Int}
theorem tell_hit (hm : IsMem w bm bw n f) (k : Nat) (hk : k < n) (v : Int) :
    Calls Tryz.prog 133 #[.pointer (some ⟨bm, 0, none⟩), .int .i64 k, .int .u64 (f k), .int .u64 v] w fun e w' => e = .returned (.tuple #[.int .u64 (f k), .int .u64 v, .bool true]) ∧ w' = w.setCell ⟨bw, k, none⟩ (.int .u64 v) := by
  have hc := hm.head.cell (i := 0) (by omega)
  have hcw := hm.row.cell hk
  have hfz := hm.row.frozen k
  go_enter Tryz.func133, Tryz.ntmps133
  go_wp2_with fail
  refine wp_loop_rounds 1 ?_; rw [rounds_succ]
  go_wp2_with (go_at_call 143; refine (word_cas _ _ _ _ _ _ hcw hfz).mono ?_; rintro e w' ⟨rfl, rfl⟩)
  refine bodyPost_ret (v := .tuple #[.int .u64 (f k), .int .u64 v, .bool true]) (by simp [results, Tryz.results133, go_sem]) rfl ⟨rfl, by simp⟩
theorem tell_miss (hm : IsMem w bm bw n f) (k : Nat) (hk : k < n) (old v : Int) (hf : ¬ f k = old) :
    Calls Tryz.prog 133 #[.pointer (some ⟨bm, 0, none⟩), .int .i64 k, .int .u64 old, .int .u64 v] w fun e w' => e = .returned (.tuple #[.int .u64 (f k), .int .u64 (f k), .bool false]) ∧ w' = w := by
  have hc := hm.head.cell (i := 0) (by omega)
  have hcw := hm.row.cell hk
  have hfz := hm.row.frozen k
  go_enter Tryz.func133, Tryz.ntmps133
  go_wp2_with fail
  refine wp_loop_rounds 1 ?_; rw [rounds_succ]
  go_wp2_with (first | (go_at_call 143; refine (word_cas _ _ _ _ _ _ hcw hfz).mono ?_; rintro e w' ⟨rfl, rfl⟩) | (go_at_call 61; refine (word_load _ _ _ _ hcw).mono ?_; rintro e w' ⟨rfl, rfl⟩))
  refine bodyPost_ret (v := .tuple #[.int .u64 (f k), .int .u64 (f k), .bool false]) (by simp [results, Tryz.results133, go_sem]) rfl ⟨rfl, by simp⟩
theorem do_out (hm : IsMem w bm bw n f) (s : Stp) (h : ¬ (0 ≤ s.at_ ∧ s.at_ < n)) :
    Calls Tryz.prog 116 #[.pointer (some ⟨bm, 0, none⟩), .int .i64 s.hand, .int .i64 s.act, .int .i64 s.at_, .int .u64 s.had, .int .u64 s.put] w
      fun e w' => e = .returned (stepOf n f s).val ∧ IsMem w' bm bw n (wordsOf n f s) ∧ w.grownBy w' (some bw) := by
  obtain ⟨hand, act, at_, had, put, ok⟩ := s
  simp only at h ⊢
  go_enter Tryz.func116, Tryz.ntmps116
  go_wp2_with (go_at_call 130; refine (has_mem (by first | exact (hm.alloc _).alloc _ | exact ((hm.alloc _).alloc _).drew) _).mono ?_; rintro e w' ⟨rfl, rfl⟩)
  all_goals refine bodyPost_ret (v := (stepOf n f ⟨hand, act, at_, had, put, ok⟩).val) ?_ rfl ⟨rfl, ?_, ?_⟩
  all_goals first
    | (simp [results, Tryz.results116, go_sem, stepOf, h, Stp.val, actOf, *]; done)
    | (have hN : ¬ (act < 1 ∨ 5 < act) := by omega
       simp [results, Tryz.results116, go_sem, stepOf, h, Stp.val, actOf, hN]
       rw [Bool.eq_iff_iff]; simp; done)
    | (simp only [wordsOf, h, if_false]; exact (hm.alloc _).alloc _)
    | exact grown_alloc (grown_alloc (grown_refl _ _) _) _
theorem sub_back {x v : Int} (hx : 0 ≤ x ∧ x ≤ 18446744073709551615) (hv : 0 ≤ v ∧ v ≤ 18446744073709551615) : IntKind.u64.wrap ((x + v) % 18446744073709551616 - v) = x := by
  rw [IntKind.wrap_u64]
  omega
theorem do_swap2 (hm : IsMem w bm bw n f) (hand had put : Int) (ok : Bool) (hv : 0 ≤ put ∧ put ≤ 18446744073709551615) (k : Nat) (hk : k < n) :
    Calls Tryz.prog 116 #[.pointer (some ⟨bm, 0, none⟩), .int .i64 hand, .int .i64 2, .int .i64 k, .int .u64 had, .int .u64 put] w
      fun e w' => e = .returned (stepOf n f ⟨hand, 2, k, had, put, ok⟩).val ∧ IsMem w' bm bw n (wordsOf n f ⟨hand, 2, k, had, put, ok⟩) ∧ w.grownBy w' (some bw) := by
  have l1 := hm.head.lt
  have l2 := hm.row.lt
  have hc : ∀ o, (w.alloc o).cell? ⟨bm, 0, none⟩ = some (.slice (some ⟨bw, 0, none⟩) n n) := fun o => (hm.alloc o).head.cell (i := 0) (by omega)
  have hcw : ∀ o, (w.alloc o).cell? ⟨bw, k, none⟩ = some (.int .u64 (f k)) := fun o => (hm.alloc o).row.cell hk
  have hfz : ∀ o, (w.alloc o).frozen? ⟨bw, k, none⟩ = false := fun o => (hm.alloc o).row.frozen k
  go_enter Tryz.func116, Tryz.ntmps116
  go_wp2_with (first
    | (go_at_call 130; refine (has_mem (by first | exact (hm.alloc _).alloc _ | exact ((hm.alloc _).alloc _).drew) _).mono ?_; rintro e w' ⟨rfl, rfl⟩)
    | (go_at_call 131; refine (word_swap _ _ (f k) _ _ (((hm.alloc _).alloc _).row.cell hk) (((hm.alloc _).alloc _).row.frozen k)).mono ?_; rintro e w' ⟨rfl, rfl⟩))
  all_goals go_light
  all_goals refine bodyPost_ret (v := (stepOf n f ⟨hand, 2, k, had, put, ok⟩).val) ?_ rfl ⟨rfl, IsMem.alloc (IsMem.alloc ?_ _) _, grown_alloc (grown_alloc (grown_setCell (grown_refl _ _) _ (.inl rfl) _) _) _⟩
  all_goals first
    | (simpa [wordsOf, stepOf, hk, actOf, putBy] using hm.set k put hv; done)
    | (simp [results, Tryz.results116, go_sem, stepOf, hk, Stp.val, actOf, putBy]; done)
theorem do_swap3 (hm : IsMem w bm bw n f) (hand had put : Int) (ok : Bool) (hv : 0 ≤ put ∧ put ≤ 18446744073709551615) (k : Nat) (hk : k < n) :
    Calls Tryz.prog 116 #[.pointer (some ⟨bm, 0, none⟩), .int .i64 hand, .int .i64 3, .int .i64 k, .int .u64 had, .int .u64 put] w
      fun e w' => e = .returned (stepOf n f ⟨hand, 3, k, had, put, ok⟩).val ∧ IsMem w' bm bw n (wordsOf n f ⟨hand, 3, k, had, put, ok⟩) ∧ w.grownBy w' (some bw) := by
  have l1 := hm.head.lt
  have l2 := hm.row.lt
  have hc : ∀ o, (w.alloc o).cell? ⟨bm, 0, none⟩ = some (.slice (some ⟨bw, 0, none⟩) n n) := fun o => (hm.alloc o).head.cell (i := 0) (by omega)
  have hcw : ∀ o, (w.alloc o).cell? ⟨bw, k, none⟩ = some (.int .u64 (f k)) := fun o => (hm.alloc o).row.cell hk
  have hfz : ∀ o, (w.alloc o).frozen? ⟨bw, k, none⟩ = false := fun o => (hm.alloc o).row.frozen k
  go_enter Tryz.func116, Tryz.ntmps116
  go_wp2_with (first
    | (go_at_call 130; refine (has_mem (by first | exact (hm.alloc _).alloc _ | exact ((hm.alloc _).alloc _).drew) _).mono ?_; rintro e w' ⟨rfl, rfl⟩)
    | (go_at_call 131; refine (word_swap _ _ (f k) _ _ (((hm.alloc _).alloc _).row.cell hk) (((hm.alloc _).alloc _).row.frozen k)).mono ?_; rintro e w' ⟨rfl, rfl⟩))
  all_goals go_light
  all_goals refine bodyPost_ret (v := (stepOf n f ⟨hand, 3, k, had, put, ok⟩).val) ?_ rfl ⟨rfl, IsMem.alloc (IsMem.alloc ?_ _) _, grown_alloc (grown_alloc (grown_setCell (grown_refl _ _) _ (.inl rfl) _) _) _⟩
  all_goals first
    | (simpa [wordsOf, stepOf, hk, actOf, putBy] using hm.set k put hv; done)
    | (simp [results, Tryz.results116, go_sem, stepOf, hk, Stp.val, actOf, putBy]; done)
theorem do_add (hm : IsMem w bm bw n f) (hand had put : Int) (ok : Bool) (hv : 0 ≤ put ∧ put ≤ 18446744073709551615) (k : Nat) (hk : k < n) :
    Calls Tryz.prog 116 #[.pointer (some ⟨bm, 0, none⟩), .int .i64 hand, .int .i64 4, .int .i64 k, .int .u64 had, .int .u64 put] w
      fun e w' => e = .returned (stepOf n f ⟨hand, 4, k, had, put, ok⟩).val ∧ IsMem w' bm bw n (wordsOf n f ⟨hand, 4, k, had, put, ok⟩) ∧ w.grownBy w' (some bw) := by
  have l1 := hm.head.lt
  have l2 := hm.row.lt
  have hc : ∀ o, (w.alloc o).cell? ⟨bm, 0, none⟩ = some (.slice (some ⟨bw, 0, none⟩) n n) := fun o => (hm.alloc o).head.cell (i := 0) (by omega)
  have hcw : ∀ o, (w.alloc o).cell? ⟨bw, k, none⟩ = some (.int .u64 (f k)) := fun o => (hm.alloc o).row.cell hk
  have hfz : ∀ o, (w.alloc o).frozen? ⟨bw, k, none⟩ = false := fun o => (hm.alloc o).row.frozen k
  go_enter Tryz.func116, Tryz.ntmps116
  go_wp2_with (first
    | (go_at_call 130; refine (has_mem (by first | exact (hm.alloc _).alloc _ | exact ((hm.alloc _).alloc _).drew) _).mono ?_; rintro e w' ⟨rfl, rfl⟩)
    | (go_at_call 132; refine (word_add _ _ (f k) _ _ (((hm.alloc _).alloc _).row.cell hk) (((hm.alloc _).alloc _).row.frozen k)).mono ?_; rintro e w' ⟨rfl, rfl⟩))
  all_goals go_light
  all_goals refine bodyPost_ret (v := (stepOf n f ⟨hand, 4, k, had, put, ok⟩).val) ?_ rfl ⟨rfl, IsMem.alloc (IsMem.alloc ?_ _) _, grown_alloc (grown_alloc (grown_setCell (grown_refl _ _) _ (.inl rfl) _) _) _⟩
  all_goals first
    | (simpa [wordsOf, stepOf, hk, actOf, putBy] using hm.set k ((f k + put) % 18446744073709551616) (by omega); done)
    | (simp [results, Tryz.results116, go_sem, stepOf, hk, Stp.val, actOf, putBy, sub_back (hm.word k hk) hv]; done)
theorem do_hit (hm : IsMem w bm bw n f) (hand put : Int) (ok : Bool) (hv : 0 ≤ put ∧ put ≤ 18446744073709551615) (k : Nat) (hk : k < n) :
    Calls Tryz.prog 116 #[.pointer (some ⟨bm, 0, none⟩), .int .i64 hand, .int .i64 5, .int .i64 k, .int .u64 (f k), .int .u64 put] w
      fun e w' => e = .returned (stepOf n f ⟨hand, 5, k, (f k), put, ok⟩).val ∧ IsMem w' bm bw n (wordsOf n f ⟨hand, 5, k, (f k), put, ok⟩) ∧ w.grownBy w' (some bw) := by
  have l1 := hm.head.lt
  have l2 := hm.row.lt
  have hc : ∀ o, (w.alloc o).cell? ⟨bm, 0, none⟩ = some (.slice (some ⟨bw, 0, none⟩) n n) := fun o => (hm.alloc o).head.cell (i := 0) (by omega)
  have hcw : ∀ o, (w.alloc o).cell? ⟨bw, k, none⟩ = some (.int .u64 (f k)) := fun o => (hm.alloc o).row.cell hk
  have hfz : ∀ o, (w.alloc o).frozen? ⟨bw, k, none⟩ = false := fun o => (hm.alloc o).row.frozen k
  go_enter Tryz.func116, Tryz.ntmps116
  go_wp2_with (first
    | (go_at_call 130; refine (has_mem (by first | exact (hm.alloc _).alloc _ | exact ((hm.alloc _).alloc _).drew) _).mono ?_; rintro e w' ⟨rfl, rfl⟩)
    | (go_at_call 133; refine (tell_hit ((hm.alloc _).alloc _) k hk _).mono ?_; rintro e w' ⟨rfl, rfl⟩))
  all_goals go_light
  all_goals refine bodyPost_ret (v := (stepOf n f ⟨hand, 5, k, (f k), put, ok⟩).val) ?_ rfl ⟨rfl, IsMem.alloc (IsMem.alloc ?_ _) _, grown_alloc (grown_alloc (grown_setCell (grown_refl _ _) _ (.inl rfl) _) _) _⟩
  all_goals first
    | (simpa [wordsOf, stepOf, hk, actOf, putBy] using hm.set k put hv; done)
    | (simp [results, Tryz.results116, go_sem, stepOf, hk, Stp.val, actOf, putBy]; done)
theorem do_miss (hm : IsMem w bm bw n f) (hand had put : Int) (ok : Bool) (hv : 0 ≤ put ∧ put ≤ 18446744073709551615) (k : Nat) (hk : k < n) (hf : ¬ f k = had) :
    Calls Tryz.prog 116 #[.pointer (some ⟨bm, 0, none⟩), .int .i64 hand, .int .i64 5, .int .i64 k, .int .u64 had, .int .u64 put] w
      fun e w' => e = .returned (stepOf n f ⟨hand, 5, k, had, put, ok⟩).val ∧ IsMem w' bm bw n (wordsOf n f ⟨hand, 5, k, had, put, ok⟩) ∧ w.grownBy w' (some bw) := by
  have l1 := hm.head.lt
  have l2 := hm.row.lt
  have hc : ∀ o, (w.alloc o).cell? ⟨bm, 0, none⟩ = some (.slice (some ⟨bw, 0, none⟩) n n) := fun o => (hm.alloc o).head.cell (i := 0) (by omega)
  have hcw : ∀ o, (w.alloc o).cell? ⟨bw, k, none⟩ = some (.int .u64 (f k)) := fun o => (hm.alloc o).row.cell hk
  have hfz : ∀ o, (w.alloc o).frozen? ⟨bw, k, none⟩ = false := fun o => (hm.alloc o).row.frozen k
  go_enter Tryz.func116, Tryz.ntmps116
  go_wp2_with (first
    | (go_at_call 130; refine (has_mem (by first | exact (hm.alloc _).alloc _ | exact ((hm.alloc _).alloc _).drew) _).mono ?_; rintro e w' ⟨rfl, rfl⟩)
    | (go_at_call 133; refine (tell_miss ((hm.alloc _).alloc _) k hk _ _ hf).mono ?_; rintro e w' ⟨rfl, rfl⟩))
  all_goals go_light
  all_goals refine bodyPost_ret (v := (stepOf n f ⟨hand, 5, k, had, put, ok⟩).val) ?_ rfl ⟨rfl, IsMem.alloc (IsMem.alloc ?_ _) _, grown_alloc (grown_alloc (grown_refl _ _) _) _⟩
  all_goals first
    | (simpa [wordsOf, stepOf, hk, actOf, putBy, hf, putF_self] using hm; done)
    | (simp [results, Tryz.results116, go_sem, stepOf, hk, Stp.val, actOf, putBy, hf]; done)
theorem do_load (hm : IsMem w bm bw n f) (hand had put : Int) (ok : Bool) (hv : 0 ≤ put ∧ put ≤ 18446744073709551615) (k : Nat) (hk : k < n) :
    Calls Tryz.prog 116 #[.pointer (some ⟨bm, 0, none⟩), .int .i64 hand, .int .i64 1, .int .i64 k, .int .u64 had, .int .u64 put] w
      fun e w' => e = .returned (stepOf n f ⟨hand, 1, k, had, put, ok⟩).val ∧ IsMem w' bm bw n (wordsOf n f ⟨hand, 1, k, had, put, ok⟩) ∧ w.grownBy w' (some bw) := by
  have l1 := hm.head.lt
  have l2 := hm.row.lt
  have hc : ∀ o, (w.alloc o).cell? ⟨bm, 0, none⟩ = some (.slice (some ⟨bw, 0, none⟩) n n) := fun o => (hm.alloc o).head.cell (i := 0) (by omega)
  have hcw : ∀ o, (w.alloc o).cell? ⟨bw, k, none⟩ = some (.int .u64 (f k)) := fun o => (hm.alloc o).row.cell hk
  have hfz : ∀ o, (w.alloc o).frozen? ⟨bw, k, none⟩ = false := fun o => (hm.alloc o).row.frozen k
  go_enter Tryz.func116, Tryz.ntmps116
  go_wp2_with (first
    | (go_at_call 130; refine (has_mem (by first | exact (hm.alloc _).alloc _ | exact ((hm.alloc _).alloc _).drew) _).mono ?_; rintro e w' ⟨rfl, rfl⟩)
    | (go_at_call 61; refine (word_load _ _ (f k) _ (((hm.alloc _).alloc _).row.cell hk)).mono ?_; rintro e w' ⟨rfl, rfl⟩))
  all_goals go_light
  all_goals refine bodyPost_ret (v := (stepOf n f ⟨hand, 1, k, had, put, ok⟩).val) ?_ rfl ⟨rfl, IsMem.alloc (IsMem.alloc ?_ _) _, grown_alloc (grown_alloc (grown_refl _ _) _) _⟩
  all_goals first
    | (simpa [wordsOf, stepOf, hk, actOf, putBy, putF_self] using hm; done)
    | (simp [results, Tryz.results116, go_sem, stepOf, hk, Stp.val, actOf, putBy]; done)
theorem do_odd (hm : IsMem w bm bw n f) (hand act had put : Int) (ok : Bool) (hv : 0 ≤ put ∧ put ≤ 18446744073709551615) (k : Nat) (hk : k < n) (ha : act < 1 ∨ 5 < act) :
    Calls Tryz.prog 116 #[.pointer (some ⟨bm, 0, none⟩), .int .i64 hand, .int .i64 act, .int .i64 k, .int .u64 had, .int .u64 put] w
      fun e w' => e = .returned (stepOf n f ⟨hand, act, k, had, put, ok⟩).val ∧ IsMem w' bm bw n (wordsOf n f ⟨hand, act, k, had, put, ok⟩) ∧ w.grownBy w' (some bw) := by
  have l1 := hm.head.lt
  have l2 := hm.row.lt
  have hc : ∀ o, (w.alloc o).cell? ⟨bm, 0, none⟩ = some (.slice (some ⟨bw, 0, none⟩) n n) := fun o => (hm.alloc o).head.cell (i := 0) (by omega)
  have hcw : ∀ o, (w.alloc o).cell? ⟨bw, k, none⟩ = some (.int .u64 (f k)) := fun o => (hm.alloc o).row.cell hk
  have hfz : ∀ o, (w.alloc o).frozen? ⟨bw, k, none⟩ = false := fun o => (hm.alloc o).row.frozen k
  go_enter Tryz.func116, Tryz.ntmps116
  go_wp2_with (first
    | (go_at_call 130; refine (has_mem (by first | exact (hm.alloc _).alloc _ | exact ((hm.alloc _).alloc _).drew) _).mono ?_; rintro e w' ⟨rfl, rfl⟩)
    | (go_at_call 61; refine (word_load _ _ (f k) _ (((hm.alloc _).alloc _).row.cell hk)).mono ?_; rintro e w' ⟨rfl, rfl⟩))
  all_goals go_light
  all_goals refine bodyPost_ret (v := (stepOf n f ⟨hand, act, k, had, put, ok⟩).val) ?_ rfl ⟨rfl, IsMem.alloc (IsMem.alloc ?_ _) _, grown_alloc (grown_alloc (grown_refl _ _) _) _⟩
  all_goals first
    | (simpa [wordsOf, stepOf, hk, actOf, putBy, ha, putF_self] using hm; done)
    | (simp [results, Tryz.results116, go_sem, stepOf, hk, Stp.val, actOf, putBy, ha]; done)
theorem do_mem (hm : IsMem w bm bw n f) (s : Stp) (hv : 0 ≤ s.put ∧ s.put ≤ 18446744073709551615) :
    Calls Tryz.prog 116 #[.pointer (some ⟨bm, 0, none⟩), .int .i64 s.hand, .int .i64 s.act, .int .i64 s.at_, .int .u64 s.had, .int .u64 s.put] w
      fun e w' => e = .returned (stepOf n f s).val ∧ IsMem w' bm bw n (wordsOf n f s) ∧ w.grownBy w' (some bw) := by
  by_cases h : 0 ≤ s.at_ ∧ s.at_ < n
  · obtain ⟨hand, act, at_, had, put, ok⟩ := s
    simp only at h hv
    obtain ⟨k, rfl⟩ : ∃ k : Nat, at_ = k := ⟨at_.toNat, by omega⟩
    have hk : k < n := by omega
    by_cases h0 : act < 1 ∨ 5 < act
    · exact do_odd hm hand act had put ok hv k hk h0
    · have : act = 1 ∨ act = 2 ∨ act = 3 ∨ act = 4 ∨ act = 5 := by omega
      rcases this with rfl | rfl | rfl | rfl | rfl
      · exact do_load hm hand had put ok hv k hk
      · exact do_swap2 hm hand had put ok hv k hk
      · exact do_swap3 hm hand had put ok hv k hk
      · exact do_add hm hand had put ok hv k hk
      · by_cases hf : f k = had
        · subst hf; exact do_hit hm hand put ok hv k hk
        · exact do_miss hm hand had put ok hv k hk hf
  · exact do_out hm s h
end
end
end Go.Proofs.YtppgbndoijppnaaGreat
