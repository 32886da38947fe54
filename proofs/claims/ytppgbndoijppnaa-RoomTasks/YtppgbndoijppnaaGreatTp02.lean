/-
  Lemmas: Ref.
-/
import Derived.Test.YtppgbndoijppnaaGreatTp01
import Derived.Deep.Light
import Derived.Laws.Bits64
namespace Go.Proofs.YtppgbndoijppnaaGreat
set_option maxHeartbeats 8000000
open Go.RowKit
set_option linter.unusedVariables false
set_option linter.unusedSimpArgs false
set_option maxRecDepth 20000
section
def IsRow (w : World) (g n cap : Nat) (f : Nat → Int) : Prop := n ≤ cap ∧ cap ≤ maxLen ∧ (∃ c : Nat → Value, w.rowIs g 50 cap c ∧ ∀ i, i < n → c i = .int .u64 (f i)) ∧ ∀ i, i < n → 0 ≤ f i ∧ f i ≤ 18446744073709551615
namespace IsRow
variable {w w' : World} {g n cap : Nat} {f : Nat → Int}
theorem cell (h : IsRow w g n cap f) {i : Nat} (hi : i < n) : w.cell? ⟨g, i, none⟩ = some (.int .u64 (f i)) := by
 obtain ⟨h1, _, ⟨c, hr, hc⟩, _⟩ := h
 rw [hr.cell (by omega), hc i hi]
theorem frozen (h : IsRow w g n cap f) (i : Nat) : w.frozen? ⟨g, i, none⟩ = false := by
 obtain ⟨h1, _, ⟨c, hr, hc⟩, _⟩ := h
 exact hr.frozen i
theorem lt (h : IsRow w g n cap f) : g < w.heap.size := by
 obtain ⟨h1, _, ⟨c, hr, hc⟩, _⟩ := h
 exact hr.lt
theorem word (h : IsRow w g n cap f) {i : Nat} (hi : i < n) : 0 ≤ f i ∧ f i ≤ 18446744073709551615 := h.2.2.2 i hi
theorem alloc (h : IsRow w g n cap f) (o : Obj) : IsRow (w.alloc o) g n cap f := by
 obtain ⟨h1, h2, ⟨c, hr, hc⟩, h3⟩ := h
 exact ⟨h1, h2, ⟨c, hr.alloc o, hc⟩, h3⟩
theorem block (h : IsRow w g n cap f) (e : w'.heap[g]? = w.heap[g]?) : IsRow w' g n cap f := by
 obtain ⟨h1, h2, ⟨c, hr, hc⟩, h3⟩ := h
 exact ⟨h1, h2, ⟨c, hr.of_block e, hc⟩, h3⟩
theorem grown {r : Option Nat} (h : IsRow w g n cap f) (hg : w.grownBy w' r) (hr : some g ≠ r) : IsRow w' g n cap f := h.block (hg.block _ h.lt hr)
theorem below (h : IsRow w g n cap f) (hg : Below w.heap.size w w') : IsRow w' g n cap f := h.block (hg.block _ h.lt)
theorem set (h : IsRow w g n cap f) (k : Nat) (v : Int) (hv : 0 ≤ v ∧ v ≤ 18446744073709551615) : IsRow (w.setCell ⟨g, k, none⟩ (.int .u64 v)) g n cap (putF f k v) := by
 obtain ⟨h1, h2, ⟨c, hr, hc⟩, h3⟩ := h
 refine ⟨h1, h2, ⟨_, hr.set k _, fun i hi => ?_⟩, fun i hi => ?_⟩
 ·simp only [putF]; split
  ·rfl
  ·exact hc i hi
 ·simp only [putF]; split
  ·exact hv
  ·exact h3 i hi
theorem setOther (h : IsRow w g n cap f) {a : Addr} (ha : g ≠ a.block) (v : Value) : IsRow (w.setCell a v) g n cap f := h.block (Below.heap_setCell _ _ _ _ ha)
theorem congr {f' : Nat → Int} (h : IsRow w g n cap f) (e : ∀ i, i < n → f i = f' i) : IsRow w g n cap f' := by
 obtain ⟨h1, h2, ⟨c, hr, hc⟩, h3⟩ := h
 exact ⟨h1, h2, ⟨c, hr, fun i hi => by rw [← e i hi]; exact hc i hi⟩, fun i hi => by rw [← e i hi]; exact h3 i hi⟩
theorem of_owns {base : Nat} (h : w.ownsRow base 50 1 (.slice (some ⟨g, 0, none⟩) n cap) n ((List.range n).map fun i => Value.int .u64 (f i))) (hf : ∀ i, i < n → 0 ≤ f i ∧ f i ≤ 18446744073709551615) : IsRow w g n cap f := by
 obtain ⟨hl, h | ⟨g', cap', cur, hv, hb, hg, hc, hm, hsz, ht⟩⟩ := h
 ·cases h.1
 ·cases hv
  refine ⟨hc, hm, ⟨fun i => cur[i]?.getD default, ⟨cur, hg, by omega, fun i hi => ?_⟩, fun i hi => ?_⟩, hf⟩
  ·have : i < cur.size := by omega
   simp [this]
  ·have h1 : cur[i]? = (cur.toList.take (n * 1))[i]? := by
    rw [List.getElem?_take, if_pos (by omega)]; simp
   show cur[i]?.getD default = _
   rw [h1, ht]; simp [hi]
end IsRow
theorem wrap_u64 (x : Int) : IntKind.u64.wrap x = x % 18446744073709551616 := by
 simp [IntKind.wrap, IntKind.signed, IntKind.bits]
section
variable {w : World} {g n cap : Nat} {f : Nat → Int}
theorem ref_out1 (hm : IsRow w g n cap f) (hand at_ had put : Int) (ok : Bool) (h : ¬ (0 ≤ at_ ∧ at_ < n)) :
  Calls Tryz.prog 86 #[.slice (some ⟨g, 0, none⟩) n cap, .int .i64 hand, .int .i64 1, .int .i64 at_, .int .u64 had, .int .u64 put] w
   fun e w' => e = .returned (stepOf n f ⟨hand, 1, at_, had, put, ok⟩).val ∧ IsRow w' g n cap (wordsOf n f ⟨hand, 1, at_, had, put, ok⟩) ∧ w.grownBy w' (some g) := by
 have ew : wordsOf n f ⟨hand, 1, at_, had, put, ok⟩ = f := by simp only [wordsOf, h, if_false]
 rw [ew]
 rcases (show at_ < 0 ∨ (¬ at_ < 0 ∧ 0 ≤ at_ ∧ ¬ at_ < (n : Int)) by omega) with hlo | ⟨hl1, hl2, hl3⟩
 all_goals go_enter Tryz.func86, Tryz.ntmps86
 all_goals go_wp2
 all_goals go_light
 all_goals refine bodyPost_ret (v := (stepOf n f ⟨hand, 1, at_, had, put, ok⟩).val) ?_ rfl ⟨rfl, IsRow.alloc (IsRow.alloc hm _) _, grown_alloc (grown_alloc (grown_refl _ _) _) _⟩
 all_goals (simp [results, Tryz.results86, go_sem, stepOf, h, Stp.val, actOf]; done)
theorem ref_out2 (hm : IsRow w g n cap f) (hand at_ had put : Int) (ok : Bool) (h : ¬ (0 ≤ at_ ∧ at_ < n)) :
  Calls Tryz.prog 86 #[.slice (some ⟨g, 0, none⟩) n cap, .int .i64 hand, .int .i64 2, .int .i64 at_, .int .u64 had, .int .u64 put] w
   fun e w' => e = .returned (stepOf n f ⟨hand, 2, at_, had, put, ok⟩).val ∧ IsRow w' g n cap (wordsOf n f ⟨hand, 2, at_, had, put, ok⟩) ∧ w.grownBy w' (some g) := by
 have ew : wordsOf n f ⟨hand, 2, at_, had, put, ok⟩ = f := by simp only [wordsOf, h, if_false]
 rw [ew]
 rcases (show at_ < 0 ∨ (¬ at_ < 0 ∧ 0 ≤ at_ ∧ ¬ at_ < (n : Int)) by omega) with hlo | ⟨hl1, hl2, hl3⟩
 all_goals go_enter Tryz.func86, Tryz.ntmps86
 all_goals go_wp2
 all_goals go_light
 all_goals refine bodyPost_ret (v := (stepOf n f ⟨hand, 2, at_, had, put, ok⟩).val) ?_ rfl ⟨rfl, IsRow.alloc (IsRow.alloc hm _) _, grown_alloc (grown_alloc (grown_refl _ _) _) _⟩
 all_goals (simp [results, Tryz.results86, go_sem, stepOf, h, Stp.val, actOf]; done)
theorem ref_out3 (hm : IsRow w g n cap f) (hand at_ had put : Int) (ok : Bool) (h : ¬ (0 ≤ at_ ∧ at_ < n)) :
  Calls Tryz.prog 86 #[.slice (some ⟨g, 0, none⟩) n cap, .int .i64 hand, .int .i64 3, .int .i64 at_, .int .u64 had, .int .u64 put] w
   fun e w' => e = .returned (stepOf n f ⟨hand, 3, at_, had, put, ok⟩).val ∧ IsRow w' g n cap (wordsOf n f ⟨hand, 3, at_, had, put, ok⟩) ∧ w.grownBy w' (some g) := by
 have ew : wordsOf n f ⟨hand, 3, at_, had, put, ok⟩ = f := by simp only [wordsOf, h, if_false]
 rw [ew]
 rcases (show at_ < 0 ∨ (¬ at_ < 0 ∧ 0 ≤ at_ ∧ ¬ at_ < (n : Int)) by omega) with hlo | ⟨hl1, hl2, hl3⟩
 all_goals go_enter Tryz.func86, Tryz.ntmps86
 all_goals go_wp2
 all_goals go_light
 all_goals refine bodyPost_ret (v := (stepOf n f ⟨hand, 3, at_, had, put, ok⟩).val) ?_ rfl ⟨rfl, IsRow.alloc (IsRow.alloc hm _) _, grown_alloc (grown_alloc (grown_refl _ _) _) _⟩
 all_goals (simp [results, Tryz.results86, go_sem, stepOf, h, Stp.val, actOf]; done)
theorem ref_out4 (hm : IsRow w g n cap f) (hand at_ had put : Int) (ok : Bool) (h : ¬ (0 ≤ at_ ∧ at_ < n)) :
  Calls Tryz.prog 86 #[.slice (some ⟨g, 0, none⟩) n cap, .int .i64 hand, .int .i64 4, .int .i64 at_, .int .u64 had, .int .u64 put] w
   fun e w' => e = .returned (stepOf n f ⟨hand, 4, at_, had, put, ok⟩).val ∧ IsRow w' g n cap (wordsOf n f ⟨hand, 4, at_, had, put, ok⟩) ∧ w.grownBy w' (some g) := by
 have ew : wordsOf n f ⟨hand, 4, at_, had, put, ok⟩ = f := by simp only [wordsOf, h, if_false]
 rw [ew]
 rcases (show at_ < 0 ∨ (¬ at_ < 0 ∧ 0 ≤ at_ ∧ ¬ at_ < (n : Int)) by omega) with hlo | ⟨hl1, hl2, hl3⟩
 all_goals go_enter Tryz.func86, Tryz.ntmps86
 all_goals go_wp2
 all_goals go_light
 all_goals refine bodyPost_ret (v := (stepOf n f ⟨hand, 4, at_, had, put, ok⟩).val) ?_ rfl ⟨rfl, IsRow.alloc (IsRow.alloc hm _) _, grown_alloc (grown_alloc (grown_refl _ _) _) _⟩
 all_goals (simp [results, Tryz.results86, go_sem, stepOf, h, Stp.val, actOf]; done)
theorem ref_out5 (hm : IsRow w g n cap f) (hand at_ had put : Int) (ok : Bool) (h : ¬ (0 ≤ at_ ∧ at_ < n)) :
  Calls Tryz.prog 86 #[.slice (some ⟨g, 0, none⟩) n cap, .int .i64 hand, .int .i64 5, .int .i64 at_, .int .u64 had, .int .u64 put] w
   fun e w' => e = .returned (stepOf n f ⟨hand, 5, at_, had, put, ok⟩).val ∧ IsRow w' g n cap (wordsOf n f ⟨hand, 5, at_, had, put, ok⟩) ∧ w.grownBy w' (some g) := by
 have ew : wordsOf n f ⟨hand, 5, at_, had, put, ok⟩ = f := by simp only [wordsOf, h, if_false]
 rw [ew]
 rcases (show at_ < 0 ∨ (¬ at_ < 0 ∧ 0 ≤ at_ ∧ ¬ at_ < (n : Int)) by omega) with hlo | ⟨hl1, hl2, hl3⟩
 all_goals go_enter Tryz.func86, Tryz.ntmps86
 all_goals go_wp2
 all_goals go_light
 all_goals refine bodyPost_ret (v := (stepOf n f ⟨hand, 5, at_, had, put, ok⟩).val) ?_ rfl ⟨rfl, IsRow.alloc (IsRow.alloc hm _) _, grown_alloc (grown_alloc (grown_refl _ _) _) _⟩
 all_goals (simp [results, Tryz.results86, go_sem, stepOf, h, Stp.val, actOf]; done)
theorem ref_load (hm : IsRow w g n cap f) (hand had put : Int) (ok : Bool) (hv : 0 ≤ put ∧ put ≤ 18446744073709551615) (k : Nat) (hk : k < n) :
  Calls Tryz.prog 86 #[.slice (some ⟨g, 0, none⟩) n cap, .int .i64 hand, .int .i64 1, .int .i64 k, .int .u64 had, .int .u64 put] w
   fun e w' => e = .returned (stepOf n f ⟨hand, 1, k, had, put, ok⟩).val ∧ IsRow w' g n cap (wordsOf n f ⟨hand, 1, k, had, put, ok⟩) ∧ w.grownBy w' (some g) := by
 have l1 := hm.lt
 have l2 : g < w.heap.size + 1 := by omega
 have l3 : g < w.heap.size + 1 + 1 := by omega
 have hcw : w.cell? ⟨g, k, none⟩ = some (.int .u64 (f k)) := hm.cell hk
 have hfz : w.frozen? ⟨g, k, none⟩ = false := hm.frozen k
 have hwk := hm.word hk
 go_enter Tryz.func86, Tryz.ntmps86
 go_wp2
 all_goals go_light
 all_goals refine bodyPost_ret (v := (stepOf n f ⟨hand, 1, k, had, put, ok⟩).val) ?_ rfl ⟨rfl, IsRow.alloc (IsRow.alloc ?_ _) _, grown_alloc (grown_alloc (grown_setCell (grown_refl _ _) _ (.inl rfl) _) _) _⟩
 all_goals first
  | (simpa [wordsOf, stepOf, hk, actOf, putBy] using hm.set k (f k) hwk; done)
  | (simp [results, Tryz.results86, go_sem, stepOf, hk, Stp.val, actOf, putBy]; done)
theorem ref_swap2 (hm : IsRow w g n cap f) (hand had put : Int) (ok : Bool) (hv : 0 ≤ put ∧ put ≤ 18446744073709551615) (k : Nat) (hk : k < n) :
  Calls Tryz.prog 86 #[.slice (some ⟨g, 0, none⟩) n cap, .int .i64 hand, .int .i64 2, .int .i64 k, .int .u64 had, .int .u64 put] w
   fun e w' => e = .returned (stepOf n f ⟨hand, 2, k, had, put, ok⟩).val ∧ IsRow w' g n cap (wordsOf n f ⟨hand, 2, k, had, put, ok⟩) ∧ w.grownBy w' (some g) := by
 have l1 := hm.lt
 have l2 : g < w.heap.size + 1 := by omega
 have l3 : g < w.heap.size + 1 + 1 := by omega
 have hcw : w.cell? ⟨g, k, none⟩ = some (.int .u64 (f k)) := hm.cell hk
 have hfz : w.frozen? ⟨g, k, none⟩ = false := hm.frozen k
 have hwk := hm.word hk
 go_enter Tryz.func86, Tryz.ntmps86
 go_wp2
 all_goals go_light
 all_goals refine bodyPost_ret (v := (stepOf n f ⟨hand, 2, k, had, put, ok⟩).val) ?_ rfl ⟨rfl, IsRow.alloc (IsRow.alloc ?_ _) _, grown_alloc (grown_alloc (grown_setCell (grown_refl _ _) _ (.inl rfl) _) _) _⟩
 all_goals first
  | (simpa [wordsOf, stepOf, hk, actOf, putBy] using hm.set k put hv; done)
  | (simp [results, Tryz.results86, go_sem, stepOf, hk, Stp.val, actOf, putBy]; done)
theorem ref_swap3 (hm : IsRow w g n cap f) (hand had put : Int) (ok : Bool) (hv : 0 ≤ put ∧ put ≤ 18446744073709551615) (k : Nat) (hk : k < n) :
  Calls Tryz.prog 86 #[.slice (some ⟨g, 0, none⟩) n cap, .int .i64 hand, .int .i64 3, .int .i64 k, .int .u64 had, .int .u64 put] w
   fun e w' => e = .returned (stepOf n f ⟨hand, 3, k, had, put, ok⟩).val ∧ IsRow w' g n cap (wordsOf n f ⟨hand, 3, k, had, put, ok⟩) ∧ w.grownBy w' (some g) := by
 have l1 := hm.lt
 have l2 : g < w.heap.size + 1 := by omega
 have l3 : g < w.heap.size + 1 + 1 := by omega
 have hcw : w.cell? ⟨g, k, none⟩ = some (.int .u64 (f k)) := hm.cell hk
 have hfz : w.frozen? ⟨g, k, none⟩ = false := hm.frozen k
 have hwk := hm.word hk
 go_enter Tryz.func86, Tryz.ntmps86
 go_wp2
 all_goals go_light
 all_goals refine bodyPost_ret (v := (stepOf n f ⟨hand, 3, k, had, put, ok⟩).val) ?_ rfl ⟨rfl, IsRow.alloc (IsRow.alloc ?_ _) _, grown_alloc (grown_alloc (grown_setCell (grown_refl _ _) _ (.inl rfl) _) _) _⟩
 all_goals first
  | (simpa [wordsOf, stepOf, hk, actOf, putBy] using hm.set k put hv; done)
  | (simp [results, Tryz.results86, go_sem, stepOf, hk, Stp.val, actOf, putBy]; done)
theorem ref_add (hm : IsRow w g n cap f) (hand had put : Int) (ok : Bool) (hv : 0 ≤ put ∧ put ≤ 18446744073709551615) (k : Nat) (hk : k < n) :
  Calls Tryz.prog 86 #[.slice (some ⟨g, 0, none⟩) n cap, .int .i64 hand, .int .i64 4, .int .i64 k, .int .u64 had, .int .u64 put] w
   fun e w' => e = .returned (stepOf n f ⟨hand, 4, k, had, put, ok⟩).val ∧ IsRow w' g n cap (wordsOf n f ⟨hand, 4, k, had, put, ok⟩) ∧ w.grownBy w' (some g) := by
 have l1 := hm.lt
 have l2 : g < w.heap.size + 1 := by omega
 have l3 : g < w.heap.size + 1 + 1 := by omega
 have hcw : w.cell? ⟨g, k, none⟩ = some (.int .u64 (f k)) := hm.cell hk
 have hfz : w.frozen? ⟨g, k, none⟩ = false := hm.frozen k
 have hwk := hm.word hk
 go_enter Tryz.func86, Tryz.ntmps86
 go_wp2
 all_goals go_light
 all_goals refine bodyPost_ret (v := (stepOf n f ⟨hand, 4, k, had, put, ok⟩).val) ?_ rfl ⟨rfl, IsRow.alloc (IsRow.alloc ?_ _) _, grown_alloc (grown_alloc (grown_setCell (grown_refl _ _) _ (.inl rfl) _) _) _⟩
 all_goals first
  | (simpa [wordsOf, stepOf, hk, actOf, putBy, wrap_u64] using hm.set k ((f k + put) % 18446744073709551616) (by omega); done)
  | (simp [results, Tryz.results86, go_sem, stepOf, hk, Stp.val, actOf, putBy, wrap_u64]; done)
theorem ref_hit (hm : IsRow w g n cap f) (hand put : Int) (ok : Bool) (hv : 0 ≤ put ∧ put ≤ 18446744073709551615) (k : Nat) (hk : k < n) :
  Calls Tryz.prog 86 #[.slice (some ⟨g, 0, none⟩) n cap, .int .i64 hand, .int .i64 5, .int .i64 k, .int .u64 (f k), .int .u64 put] w
   fun e w' => e = .returned (stepOf n f ⟨hand, 5, k, (f k), put, ok⟩).val ∧ IsRow w' g n cap (wordsOf n f ⟨hand, 5, k, (f k), put, ok⟩) ∧ w.grownBy w' (some g) := by
 have l1 := hm.lt
 have l2 : g < w.heap.size + 1 := by omega
 have l3 : g < w.heap.size + 1 + 1 := by omega
 have hcw : w.cell? ⟨g, k, none⟩ = some (.int .u64 (f k)) := hm.cell hk
 have hfz : w.frozen? ⟨g, k, none⟩ = false := hm.frozen k
 have hwk := hm.word hk
 go_enter Tryz.func86, Tryz.ntmps86
 go_wp2
 all_goals go_light
 all_goals refine bodyPost_ret (v := (stepOf n f ⟨hand, 5, k, (f k), put, ok⟩).val) ?_ rfl ⟨rfl, IsRow.alloc (IsRow.alloc ?_ _) _, grown_alloc (grown_alloc (grown_setCell (grown_refl _ _) _ (.inl rfl) _) _) _⟩
 all_goals first
  | (simpa [wordsOf, stepOf, hk, actOf, putBy] using hm.set k put hv; done)
  | (simp [results, Tryz.results86, go_sem, stepOf, hk, Stp.val, actOf, putBy]; done)
theorem ref_miss (hm : IsRow w g n cap f) (hand had put : Int) (ok : Bool) (hv : 0 ≤ put ∧ put ≤ 18446744073709551615) (k : Nat) (hk : k < n) (hf : ¬ f k = had) :
  Calls Tryz.prog 86 #[.slice (some ⟨g, 0, none⟩) n cap, .int .i64 hand, .int .i64 5, .int .i64 k, .int .u64 had, .int .u64 put] w
   fun e w' => e = .returned (stepOf n f ⟨hand, 5, k, had, put, ok⟩).val ∧ IsRow w' g n cap (wordsOf n f ⟨hand, 5, k, had, put, ok⟩) ∧ w.grownBy w' (some g) := by
 have l1 := hm.lt
 have l2 : g < w.heap.size + 1 := by omega
 have l3 : g < w.heap.size + 1 + 1 := by omega
 have hcw : w.cell? ⟨g, k, none⟩ = some (.int .u64 (f k)) := hm.cell hk
 have hfz : w.frozen? ⟨g, k, none⟩ = false := hm.frozen k
 have hwk := hm.word hk
 go_enter Tryz.func86, Tryz.ntmps86
 go_wp2
 all_goals go_light
 all_goals refine bodyPost_ret (v := (stepOf n f ⟨hand, 5, k, had, put, ok⟩).val) ?_ rfl ⟨rfl, IsRow.alloc (IsRow.alloc ?_ _) _, grown_alloc (grown_alloc (grown_setCell (grown_refl _ _) _ (.inl rfl) _) _) _⟩
 all_goals first
  | (simpa [wordsOf, stepOf, hk, actOf, putBy, hf] using hm.set k (f k) hwk; done)
  | (simp [results, Tryz.results86, go_sem, stepOf, hk, Stp.val, actOf, putBy, hf]; done)
theorem ref_do (hm : IsRow w g n cap f) (s : Stp) (hv : 0 ≤ s.put ∧ s.put ≤ 18446744073709551615) (ha : 1 ≤ s.act ∧ s.act ≤ 5) :
  Calls Tryz.prog 86 #[.slice (some ⟨g, 0, none⟩) n cap, .int .i64 s.hand, .int .i64 s.act, .int .i64 s.at_, .int .u64 s.had, .int .u64 s.put] w
   fun e w' => e = .returned (stepOf n f s).val ∧ IsRow w' g n cap (wordsOf n f s) ∧ w.grownBy w' (some g) := by
 obtain ⟨hand, act, at_, had, put, ok⟩ := s
 simp only at hv ha
 show Calls Tryz.prog 86 #[.slice (some ⟨g, 0, none⟩) n cap, .int .i64 hand, .int .i64 act, .int .i64 at_, .int .u64 had, .int .u64 put] w _
 have h5 : act = 1 ∨ act = 2 ∨ act = 3 ∨ act = 4 ∨ act = 5 := by omega
 by_cases h : 0 ≤ at_ ∧ at_ < n
 ·obtain ⟨k, rfl⟩ : ∃ k : Nat, at_ = k := ⟨at_.toNat, by omega⟩
  have hk : k < n := by omega
  rcases h5 with rfl | rfl | rfl | rfl | rfl
  ·exact ref_load hm hand had put ok hv k hk
  ·exact ref_swap2 hm hand had put ok hv k hk
  ·exact ref_swap3 hm hand had put ok hv k hk
  ·exact ref_add hm hand had put ok hv k hk
  ·by_cases hf : f k = had
   ·subst hf; exact ref_hit hm hand put ok hv k hk
   ·exact ref_miss hm hand had put ok hv k hk hf
 ·rcases h5 with rfl | rfl | rfl | rfl | rfl
  ·exact ref_out1 hm hand at_ had put ok h
  ·exact ref_out2 hm hand at_ had put ok h
  ·exact ref_out3 hm hand at_ had put ok h
  ·exact ref_out4 hm hand at_ had put ok h
  ·exact ref_out5 hm hand at_ had put ok h
end
end
end Go.Proofs.YtppgbndoijppnaaGreat
