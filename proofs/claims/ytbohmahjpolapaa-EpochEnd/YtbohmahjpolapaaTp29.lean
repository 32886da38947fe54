/-
  Lemmas: EpochK.
-/
import Derived.Test.YtbohmahjpolapaaTp22
import Derived.Test.YtbohmahjpolapaaTp23
import Derived.Test.YtbohmahjpolapaaTp24
import Derived.Test.YtbohmahjpolapaaTp26
import Derived.Test.YtbohmahjpolapaaTp27
import Derived.Test.YtbohmahjpolapaaTp28
/-
  The tasks of an epoch: their kind: what each does is what its abstract task says.
-/
namespace Go.Proofs.Ytbohmahjpolapaa
open Go.RowKit
set_option linter.unusedVariables false
set_option linter.unusedSimpArgs false
set_option maxRecDepth 20000
namespace Epoch

set_option maxHeartbeats 4000000 in
theorem step_any {r : Int} (hr : 1 ≤ r ∧ r ≤ 64) {w : World} {b bm bw n : Nat} {f : Nat → Int} {s : EpS} {j : Jb} (hj : s.j = j ∧ Wf r s) (h : w.rowIs b ((kEpoch r).t j) ((kEpoch r).n j) (ecell r s)) (hm : IsMem w bm bw n f) (h1 : b ≠ bm) (h2 : b ≠ bw) :
    Calls Try.prog ((kEpoch r).fs j) #[.pointer (some ⟨b, 0, none⟩), .pointer (some ⟨bm, 0, none⟩)] w fun e w' => e = .returned (.tuple #[(stepOf n f (ereq s)).val, .int .i64 (if eends r s (stepOf n f (ereq s)) = true then 1 else 0)]) ∧
      w'.rowIs b ((kEpoch r).t j) ((kEpoch r).n j) (ecell r (enext r s (stepOf n f (ereq s)))) ∧ IsMem w' bm bw n (wordsOf n f (ereq s)) ∧ Touch w w' (fun k => k = b ∨ k = bw) := by
  obtain ⟨rfl, H⟩ := hj
  obtain ⟨x, hx⟩ : ∃ x, stepOf n f (ereq s) = x := ⟨_, rfl⟩
  obtain ⟨f', hf'⟩ : ∃ f', wordsOf n f (ereq s) = f' := ⟨_, rfl⟩
  rw [hx, hf']
  obtain ⟨hst, hh, hha, hnx, hn0, hn1, hn4, -, -, -, -, -, hmk⟩ := H
  obtain ⟨hand, ⟨kind, ja, jb, jc, jh⟩, st, nx, e0, f0, w0, given, mask, ⟨ok, tv⟩⟩ := s
  simp only at hst hha hnx hn0 hn1 hn4 hmk hx hf' h ⊢
  rcases hst with ⟨rfl, hst⟩ | ⟨rfl, hst⟩ | ⟨rfl, hja, hst⟩ | ⟨rfl, hst⟩
  all_goals (simp only [show ∀ a b c d, (kEpoch r).t ⟨1, a, b, c, d⟩ = 111 from fun _ _ _ _ => rfl, show ∀ a b c d, (kEpoch r).fs ⟨1, a, b, c, d⟩ = 102 from fun _ _ _ _ => rfl, show ∀ a b c d, (kEpoch r).n ⟨1, a, b, c, d⟩ = 5 from fun _ _ _ _ => rfl, show ∀ a b c d, (kEpoch r).t ⟨2, a, b, c, d⟩ = 114 from fun _ _ _ _ => rfl, show ∀ a b c d, (kEpoch r).fs ⟨2, a, b, c, d⟩ = 114 from fun _ _ _ _ => rfl, show ∀ a b c d, (kEpoch r).n ⟨2, a, b, c, d⟩ = 3 from fun _ _ _ _ => rfl, show ∀ a b c d, (kEpoch r).t ⟨3, a, b, c, d⟩ = 117 from fun _ _ _ _ => rfl, show ∀ a b c d, (kEpoch r).fs ⟨3, a, b, c, d⟩ = 115 from fun _ _ _ _ => rfl, show ∀ a b c d, (kEpoch r).n ⟨3, a, b, c, d⟩ = 6 from fun _ _ _ _ => rfl, show ∀ a b c d, (kEpoch r).t ⟨4, a, b, c, d⟩ = 120 from fun _ _ _ _ => rfl, show ∀ a b c d, (kEpoch r).fs ⟨4, a, b, c, d⟩ = 117 from fun _ _ _ _ => rfl, show ∀ a b c d, (kEpoch r).n ⟨4, a, b, c, d⟩ = 9 from fun _ _ _ _ => rfl] at h ⊢)
  · rcases hst with rfl | rfl
    · skip
      have e4 : ereq ⟨hand, ⟨1, ja, jb, jc, jh⟩, 0, nx, e0, f0, w0, given, mask, ⟨ok, tv⟩⟩ = ⟨hand, 1, 0, 0, 0, true⟩ := by simp [ereq]
      rw [e4] at hx hf'
      have e6 : ecell r ⟨hand, ⟨1, ja, jb, jc, jh⟩, 0, nx, e0, f0, w0, given, mask, ⟨ok, tv⟩⟩ = enC hand e0 false ⟨ok, tv⟩ := by simp [ecell]
      rw [e6] at h
      have e5 : eends r ⟨hand, ⟨1, ja, jb, jc, jh⟩, 0, nx, e0, f0, w0, given, mask, ⟨ok, tv⟩⟩ x = false := by simp [eends]
      have e7 : ecell r (enext r ⟨hand, ⟨1, ja, jb, jc, jh⟩, 0, nx, e0, f0, w0, given, mask, ⟨ok, tv⟩⟩ x) = enC hand x.had true ⟨ok, tv⟩ := by simp [ecell, enext]
      rw [e5, e7]
      first | rw [if_pos rfl] | rw [if_neg (by decide)]
      exact es0 h hm h1 h2 hx hf'
    · skip
      have e4 : ereq ⟨hand, ⟨1, ja, jb, jc, jh⟩, 1, nx, e0, f0, w0, given, mask, ⟨ok, tv⟩⟩ = ⟨hand, 2, 1 + hand, 0, u64 (e0 + 1), true⟩ := by simp [ereq]
      rw [e4] at hx hf'
      have e6 : ecell r ⟨hand, ⟨1, ja, jb, jc, jh⟩, 1, nx, e0, f0, w0, given, mask, ⟨ok, tv⟩⟩ = enC hand e0 true ⟨ok, tv⟩ := by simp [ecell]
      rw [e6] at h
      have e5 : eends r ⟨hand, ⟨1, ja, jb, jc, jh⟩, 1, nx, e0, f0, w0, given, mask, ⟨ok, tv⟩⟩ x = true := by simp [eends]
      have e7 : ecell r (enext r ⟨hand, ⟨1, ja, jb, jc, jh⟩, 1, nx, e0, f0, w0, given, mask, ⟨ok, tv⟩⟩ x) = enC hand e0 true ⟨true, e0⟩ := by simp [ecell, enext]
      rw [e5, e7]
      first | rw [if_pos rfl] | rw [if_neg (by decide)]
      exact es1 h hm h1 h2 hha rfl hx hf'
  · subst hst
    have e4 : ereq ⟨hand, ⟨2, ja, jb, jc, jh⟩, 0, nx, e0, f0, w0, given, mask, ⟨ok, tv⟩⟩ = ⟨hand, 2, 1 + hand, 0, 0, true⟩ := by simp [ereq]
    rw [e4] at hx hf'
    have e6 : ecell r ⟨hand, ⟨2, ja, jb, jc, jh⟩, 0, nx, e0, f0, w0, given, mask, ⟨ok, tv⟩⟩ = lvC hand ⟨ok, tv⟩ := by simp [ecell]
    rw [e6] at h
    have e5 : eends r ⟨hand, ⟨2, ja, jb, jc, jh⟩, 0, nx, e0, f0, w0, given, mask, ⟨ok, tv⟩⟩ x = true := by simp [eends]
    have e7 : ecell r (enext r ⟨hand, ⟨2, ja, jb, jc, jh⟩, 0, nx, e0, f0, w0, given, mask, ⟨ok, tv⟩⟩ x) = lvC hand ⟨true, 0⟩ := by simp [ecell, enext]
    rw [e5, e7]
    first | rw [if_pos rfl] | rw [if_neg (by decide)]
    exact ls0 h hm h1 h2 hha hx hf'
  · rcases hst with rfl | rfl
    · skip
      have e4 : ereq ⟨hand, ⟨3, ja, jb, jc, jh⟩, 0, nx, e0, f0, w0, given, mask, ⟨ok, tv⟩⟩ = ⟨hand, 1, 0, 0, 0, true⟩ := by simp [ereq]
      rw [e4] at hx hf'
      have e6 : ecell r ⟨hand, ⟨3, ja, jb, jc, jh⟩, 0, nx, e0, f0, w0, given, mask, ⟨ok, tv⟩⟩ = rtC hand ja e0 false ⟨ok, tv⟩ := by simp [ecell]
      rw [e6] at h
      have e5 : eends r ⟨hand, ⟨3, ja, jb, jc, jh⟩, 0, nx, e0, f0, w0, given, mask, ⟨ok, tv⟩⟩ x = false := by simp [eends]
      have e7 : ecell r (enext r ⟨hand, ⟨3, ja, jb, jc, jh⟩, 0, nx, e0, f0, w0, given, mask, ⟨ok, tv⟩⟩ x) = rtC hand ja x.had true ⟨ok, tv⟩ := by simp [ecell, enext]
      rw [e5, e7]
      first | rw [if_pos rfl] | rw [if_neg (by decide)]
      exact rs0 h hm h1 h2 hx hf'
    · skip
      have e4 : ereq ⟨hand, ⟨3, ja, jb, jc, jh⟩, 1, nx, e0, f0, w0, given, mask, ⟨ok, tv⟩⟩ = ⟨hand, 5, 9 + ja, 0, u64 (e0 + 1), true⟩ := by simp [ereq]
      rw [e4] at hx hf'
      have e6 : ecell r ⟨hand, ⟨3, ja, jb, jc, jh⟩, 1, nx, e0, f0, w0, given, mask, ⟨ok, tv⟩⟩ = rtC hand ja e0 true ⟨ok, tv⟩ := by simp [ecell]
      rw [e6] at h
      have e5 : eends r ⟨hand, ⟨3, ja, jb, jc, jh⟩, 1, nx, e0, f0, w0, given, mask, ⟨ok, tv⟩⟩ x = true := by simp [eends]
      have e7 : ecell r (enext r ⟨hand, ⟨3, ja, jb, jc, jh⟩, 1, nx, e0, f0, w0, given, mask, ⟨ok, tv⟩⟩ x) = rtC hand ja e0 true ⟨x.ok, 0⟩ := by simp [ecell, enext]
      rw [e5, e7]
      first | rw [if_pos rfl] | rw [if_neg (by decide)]
      exact rs1 h hm h1 h2 ⟨hja.1, by omega⟩ rfl hx hf'
  · obtain rfl | rfl | rfl | rfl | rfl | rfl : st = 0 ∨ st = 1 ∨ st = 2 ∨ st = 3 ∨ st = 4 ∨ st = 5 := by omega
    · skip
      have e4 : ereq ⟨hand, ⟨4, ja, jb, jc, jh⟩, 0, nx, e0, f0, w0, given, mask, ⟨ok, tv⟩⟩ = ⟨hand, 1, 0, 0, 0, true⟩ := by simp [ereq]
      rw [e4] at hx hf'
      have e6 : ecell r ⟨hand, ⟨4, ja, jb, jc, jh⟩, 0, nx, e0, f0, w0, given, mask, ⟨ok, tv⟩⟩ = rpC hand r 0 nx e0 given mask ⟨ok, tv⟩ := by simp [ecell]
      rw [e6] at h
      have e5 : eends r ⟨hand, ⟨4, ja, jb, jc, jh⟩, 0, nx, e0, f0, w0, given, mask, ⟨ok, tv⟩⟩ x = false := by simp [eends]
      have e7 : ecell r (enext r ⟨hand, ⟨4, ja, jb, jc, jh⟩, 0, nx, e0, f0, w0, given, mask, ⟨ok, tv⟩⟩ x) = rpC hand r 1 0 x.had given mask ⟨ok, tv⟩ := by simp [ecell, enext]
      rw [e5, e7]
      first | rw [if_pos rfl] | rw [if_neg (by decide)]
      exact ps0 h hm h1 h2 (fun w1 r1 m1 => p_look_any r1 m1 h1 h2 hx hf')
    · skip
      have e4 : ereq ⟨hand, ⟨4, ja, jb, jc, jh⟩, 1, nx, e0, f0, w0, given, mask, ⟨ok, tv⟩⟩ = ⟨hand, 1, 1 + nx, 0, 0, true⟩ := by simp [ereq]
      rw [e4] at hx hf'
      have e6 : ecell r ⟨hand, ⟨4, ja, jb, jc, jh⟩, 1, nx, e0, f0, w0, given, mask, ⟨ok, tv⟩⟩ = rpC hand r 1 nx e0 given mask ⟨ok, tv⟩ := by simp [ecell]
      rw [e6] at h
      by_cases a0 : x.had = 0
      · by_cases a2 : nx + 1 = 8
        · skip
          have e5 : eends r ⟨hand, ⟨4, ja, jb, jc, jh⟩, 1, nx, e0, f0, w0, given, mask, ⟨ok, tv⟩⟩ x = false := by simp [eends]
          have e7 : ecell r (enext r ⟨hand, ⟨4, ja, jb, jc, jh⟩, 1, nx, e0, f0, w0, given, mask, ⟨ok, tv⟩⟩ x) = rpC hand r 2 (nx + 1) e0 given mask ⟨ok, tv⟩ := by simp [ecell, enext, bars, a0, a2]
          rw [e5, e7, if_neg (by decide)]
          exact ps1 h hm h1 h2 (fun w1 r1 m1 => p_ask_out_last r1 m1 h1 h2 ⟨hnx.1, by omega⟩ rfl a0 a2 hx hf')
        · skip
          have e5 : eends r ⟨hand, ⟨4, ja, jb, jc, jh⟩, 1, nx, e0, f0, w0, given, mask, ⟨ok, tv⟩⟩ x = false := by simp [eends]
          have e7 : ecell r (enext r ⟨hand, ⟨4, ja, jb, jc, jh⟩, 1, nx, e0, f0, w0, given, mask, ⟨ok, tv⟩⟩ x) = rpC hand r 1 (nx + 1) e0 given mask ⟨ok, tv⟩ := by simp [ecell, enext, bars, a0, a2]
          rw [e5, e7, if_neg (by decide)]
          exact ps1 h hm h1 h2 (fun w1 r1 m1 => p_ask_out_more r1 m1 h1 h2 ⟨hnx.1, by omega⟩ rfl a0 a2 hx hf')
      · by_cases a1 : x.had = u64 (e0 + 1)
        · by_cases a2 : nx + 1 = 8
          · skip
            have a0' : ¬ u64 (e0 + 1) = 0 := by rw [← a1]; exact a0
            have e5 : eends r ⟨hand, ⟨4, ja, jb, jc, jh⟩, 1, nx, e0, f0, w0, given, mask, ⟨ok, tv⟩⟩ x = false := by simp [eends]
            have e7 : ecell r (enext r ⟨hand, ⟨4, ja, jb, jc, jh⟩, 1, nx, e0, f0, w0, given, mask, ⟨ok, tv⟩⟩ x) = rpC hand r 2 (nx + 1) e0 given mask ⟨ok, tv⟩ := by simp [ecell, enext, bars, a0, a0', a1, a2]
            rw [e5, e7, if_neg (by decide)]
            exact ps1 h hm h1 h2 (fun w1 r1 m1 => p_ask_in_last r1 m1 h1 h2 ⟨hnx.1, by omega⟩ rfl a0 a1 a2 hx hf')
          · skip
            have a0' : ¬ u64 (e0 + 1) = 0 := by rw [← a1]; exact a0
            have e5 : eends r ⟨hand, ⟨4, ja, jb, jc, jh⟩, 1, nx, e0, f0, w0, given, mask, ⟨ok, tv⟩⟩ x = false := by simp [eends]
            have e7 : ecell r (enext r ⟨hand, ⟨4, ja, jb, jc, jh⟩, 1, nx, e0, f0, w0, given, mask, ⟨ok, tv⟩⟩ x) = rpC hand r 1 (nx + 1) e0 given mask ⟨ok, tv⟩ := by simp [ecell, enext, bars, a0, a0', a1, a2]
            rw [e5, e7, if_neg (by decide)]
            exact ps1 h hm h1 h2 (fun w1 r1 m1 => p_ask_in_more r1 m1 h1 h2 ⟨hnx.1, by omega⟩ rfl a0 a1 a2 hx hf')
        · skip
          have e5 : eends r ⟨hand, ⟨4, ja, jb, jc, jh⟩, 1, nx, e0, f0, w0, given, mask, ⟨ok, tv⟩⟩ x = false := by simp [eends]
          have e7 : ecell r (enext r ⟨hand, ⟨4, ja, jb, jc, jh⟩, 1, nx, e0, f0, w0, given, mask, ⟨ok, tv⟩⟩ x) = rpC hand r 3 (nx + 1) e0 given mask ⟨ok, tv⟩ := by simp [ecell, enext, bars, a0, a1]
          rw [e5, e7, if_neg (by decide)]
          exact ps1 h hm h1 h2 (fun w1 r1 m1 => p_ask_bar r1 m1 h1 h2 ⟨hnx.1, by omega⟩ rfl a0 a1 hx hf')
    · skip
      have e4 : ereq ⟨hand, ⟨4, ja, jb, jc, jh⟩, 2, nx, e0, f0, w0, given, mask, ⟨ok, tv⟩⟩ = ⟨hand, 5, 0, e0, u64 (e0 + 1), true⟩ := by simp [ereq]
      rw [e4] at hx hf'
      have e6 : ecell r ⟨hand, ⟨4, ja, jb, jc, jh⟩, 2, nx, e0, f0, w0, given, mask, ⟨ok, tv⟩⟩ = rpC hand r 2 nx e0 given mask ⟨ok, tv⟩ := by simp [ecell]
      rw [e6] at h
      have e5 : eends r ⟨hand, ⟨4, ja, jb, jc, jh⟩, 2, nx, e0, f0, w0, given, mask, ⟨ok, tv⟩⟩ x = false := by simp [eends]
      have e7 : ecell r (enext r ⟨hand, ⟨4, ja, jb, jc, jh⟩, 2, nx, e0, f0, w0, given, mask, ⟨ok, tv⟩⟩ x) = rpC hand r 3 nx e0 given mask ⟨ok, tv⟩ := by simp [ecell, enext]
      rw [e5, e7]
      first | rw [if_pos rfl] | rw [if_neg (by decide)]
      exact ps2 h hm h1 h2 rfl hx hf'
    · skip
      have e4 : ereq ⟨hand, ⟨4, ja, jb, jc, jh⟩, 3, nx, e0, f0, w0, given, mask, ⟨ok, tv⟩⟩ = ⟨hand, 1, 0, 0, 0, true⟩ := by simp [ereq]
      rw [e4] at hx hf'
      have e6 : ecell r ⟨hand, ⟨4, ja, jb, jc, jh⟩, 3, nx, e0, f0, w0, given, mask, ⟨ok, tv⟩⟩ = rpC hand r 3 nx e0 given mask ⟨ok, tv⟩ := by simp [ecell]
      rw [e6] at h
      have e5 : eends r ⟨hand, ⟨4, ja, jb, jc, jh⟩, 3, nx, e0, f0, w0, given, mask, ⟨ok, tv⟩⟩ x = false := by simp [eends]
      have e7 : ecell r (enext r ⟨hand, ⟨4, ja, jb, jc, jh⟩, 3, nx, e0, f0, w0, given, mask, ⟨ok, tv⟩⟩ x) = rpC hand r 4 0 x.had given mask ⟨ok, tv⟩ := by simp [ecell, enext]
      rw [e5, e7]
      first | rw [if_pos rfl] | rw [if_neg (by decide)]
      exact ps3 h hm h1 h2 (fun w1 r1 m1 => p_look_any r1 m1 h1 h2 hx hf')
    · skip
      have e4 : ereq ⟨hand, ⟨4, ja, jb, jc, jh⟩, 4, nx, e0, f0, w0, given, mask, ⟨ok, tv⟩⟩ = ⟨hand, 1, 9 + nx, 0, 0, true⟩ := by simp [ereq]
      rw [e4] at hx hf'
      have e6 : ecell r ⟨hand, ⟨4, ja, jb, jc, jh⟩, 4, nx, e0, f0, w0, given, mask, ⟨ok, tv⟩⟩ = rpC hand r 4 nx f0 given mask ⟨ok, tv⟩ := by simp [ecell]
      rw [e6] at h
      by_cases a0 : x.had = 0
      · skip
        by_cases a9 : nx + 1 < r
        · have e5 : eends r ⟨hand, ⟨4, ja, jb, jc, jh⟩, 4, nx, e0, f0, w0, given, mask, ⟨ok, tv⟩⟩ x = false := by simp [eends, due, a0, a9]
          have e7 : ecell r (enext r ⟨hand, ⟨4, ja, jb, jc, jh⟩, 4, nx, e0, f0, w0, given, mask, ⟨ok, tv⟩⟩ x) = rpC hand r 4 (nx + 1) f0 given mask ⟨ok, tv⟩ := by simp [ecell, enext, due, a0, a9]
          rw [e5, e7]
          first | rw [if_pos rfl] | rw [if_neg (by decide)]
          exact ps4 h hm h1 h2 (fun w1 r1 m1 => p_visit_none r1 m1 h1 h2 ⟨hnx.1, by omega⟩ rfl a0 (fun w2 r2 => goon_more r2 ⟨hnx.1, by omega⟩ a9) hx hf')
        · have e5 : eends r ⟨hand, ⟨4, ja, jb, jc, jh⟩, 4, nx, e0, f0, w0, given, mask, ⟨ok, tv⟩⟩ x = true := by simp [eends, due, a0, a9]
          have e7 : ecell r (enext r ⟨hand, ⟨4, ja, jb, jc, jh⟩, 4, nx, e0, f0, w0, given, mask, ⟨ok, tv⟩⟩ x) = rpC hand r 4 (nx + 1) f0 given mask ⟨true, mask⟩ := by simp [ecell, enext, due, a0, a9]
          rw [e5, e7]
          first | rw [if_pos rfl] | rw [if_neg (by decide)]
          exact ps4 h hm h1 h2 (fun w1 r1 m1 => p_visit_none r1 m1 h1 h2 ⟨hnx.1, by omega⟩ rfl a0 (fun w2 r2 => goon_end r2 ⟨hnx.1, by omega⟩ a9) hx hf')
      · by_cases a1 : u64 (x.had + 1) ≤ f0
        · skip
          have e5 : eends r ⟨hand, ⟨4, ja, jb, jc, jh⟩, 4, nx, e0, f0, w0, given, mask, ⟨ok, tv⟩⟩ x = false := by simp [eends, due, a0, a1]
          have e7 : ecell r (enext r ⟨hand, ⟨4, ja, jb, jc, jh⟩, 4, nx, e0, f0, w0, given, mask, ⟨ok, tv⟩⟩ x) = rpC hand r 5 nx f0 x.had mask ⟨ok, tv⟩ := by simp [ecell, enext, due, a0, a1]
          rw [e5, e7, if_neg (by decide)]
          exact ps4 h hm h1 h2 (fun w1 r1 m1 => p_visit_due r1 m1 h1 h2 ⟨hnx.1, by omega⟩ rfl a0 a1 hx hf')
        · skip
          by_cases a9 : nx + 1 < r
          · have e5 : eends r ⟨hand, ⟨4, ja, jb, jc, jh⟩, 4, nx, e0, f0, w0, given, mask, ⟨ok, tv⟩⟩ x = false := by simp [eends, due, a0, a1, a9]
            have e7 : ecell r (enext r ⟨hand, ⟨4, ja, jb, jc, jh⟩, 4, nx, e0, f0, w0, given, mask, ⟨ok, tv⟩⟩ x) = rpC hand r 4 (nx + 1) f0 given mask ⟨ok, tv⟩ := by simp [ecell, enext, due, a0, a1, a9]
            rw [e5, e7]
            first | rw [if_pos rfl] | rw [if_neg (by decide)]
            exact ps4 h hm h1 h2 (fun w1 r1 m1 => p_visit_young r1 m1 h1 h2 ⟨hnx.1, by omega⟩ rfl a0 a1 (fun w2 r2 => goon_more r2 ⟨hnx.1, by omega⟩ a9) hx hf')
          · have e5 : eends r ⟨hand, ⟨4, ja, jb, jc, jh⟩, 4, nx, e0, f0, w0, given, mask, ⟨ok, tv⟩⟩ x = true := by simp [eends, due, a0, a1, a9]
            have e7 : ecell r (enext r ⟨hand, ⟨4, ja, jb, jc, jh⟩, 4, nx, e0, f0, w0, given, mask, ⟨ok, tv⟩⟩ x) = rpC hand r 4 (nx + 1) f0 given mask ⟨true, mask⟩ := by simp [ecell, enext, due, a0, a1, a9]
            rw [e5, e7]
            first | rw [if_pos rfl] | rw [if_neg (by decide)]
            exact ps4 h hm h1 h2 (fun w1 r1 m1 => p_visit_young r1 m1 h1 h2 ⟨hnx.1, by omega⟩ rfl a0 a1 (fun w2 r2 => goon_end r2 ⟨hnx.1, by omega⟩ a9) hx hf')
    · skip
      have e4 : ereq ⟨hand, ⟨4, ja, jb, jc, jh⟩, 5, nx, e0, f0, w0, given, mask, ⟨ok, tv⟩⟩ = ⟨hand, 5, 9 + nx, given, 0, true⟩ := by simp [ereq]
      rw [e4] at hx hf'
      have e6 : ecell r ⟨hand, ⟨4, ja, jb, jc, jh⟩, 5, nx, e0, f0, w0, given, mask, ⟨ok, tv⟩⟩ = rpC hand r 5 nx f0 given mask ⟨ok, tv⟩ := by simp [ecell]
      rw [e6] at h
      have hn64 : nx < 64 := by have := hn4 (by decide); omega
      cases hok : x.ok with
      | false =>
        by_cases a9 : nx + 1 < r
        · have e5 : eends r ⟨hand, ⟨4, ja, jb, jc, jh⟩, 5, nx, e0, f0, w0, given, mask, ⟨ok, tv⟩⟩ x = false := by simp [eends, a9]
          have e7 : ecell r (enext r ⟨hand, ⟨4, ja, jb, jc, jh⟩, 5, nx, e0, f0, w0, given, mask, ⟨ok, tv⟩⟩ x) = rpC hand r 4 (nx + 1) f0 given mask ⟨ok, tv⟩ := by simp [ecell, enext, hok, a9]
          rw [e5, e7]
          first | rw [if_pos rfl] | rw [if_neg (by decide)]
          exact ps5 h hm h1 h2 (fun w1 r1 m1 => p_give_no r1 m1 h1 h2 ⟨hnx.1, hn64⟩ hok (fun w2 r2 => goon_more r2 ⟨hnx.1, by omega⟩ a9) hx hf')
        · have e5 : eends r ⟨hand, ⟨4, ja, jb, jc, jh⟩, 5, nx, e0, f0, w0, given, mask, ⟨ok, tv⟩⟩ x = true := by simp [eends, a9]
          have e7 : ecell r (enext r ⟨hand, ⟨4, ja, jb, jc, jh⟩, 5, nx, e0, f0, w0, given, mask, ⟨ok, tv⟩⟩ x) = rpC hand r 4 (nx + 1) f0 given mask ⟨true, mask⟩ := by simp [ecell, enext, hok, a9]
          rw [e5, e7]
          first | rw [if_pos rfl] | rw [if_neg (by decide)]
          exact ps5 h hm h1 h2 (fun w1 r1 m1 => p_give_no r1 m1 h1 h2 ⟨hnx.1, hn64⟩ hok (fun w2 r2 => goon_end r2 ⟨hnx.1, by omega⟩ a9) hx hf')
      | true =>
        by_cases a9 : nx + 1 < r
        · have e5 : eends r ⟨hand, ⟨4, ja, jb, jc, jh⟩, 5, nx, e0, f0, w0, given, mask, ⟨ok, tv⟩⟩ x = false := by simp [eends, a9]
          have e7 : ecell r (enext r ⟨hand, ⟨4, ja, jb, jc, jh⟩, 5, nx, e0, f0, w0, given, mask, ⟨ok, tv⟩⟩ x) = rpC hand r 4 (nx + 1) f0 given (mput mask nx) ⟨ok, tv⟩ := by simp [ecell, enext, hok, a9]
          rw [e5, e7]
          first | rw [if_pos rfl] | rw [if_neg (by decide)]
          exact ps5 h hm h1 h2 (fun w1 r1 m1 => p_give_ok r1 m1 h1 h2 ⟨hnx.1, hn64⟩ hmk rfl hok (fun w2 r2 => goon_more r2 ⟨hnx.1, by omega⟩ a9) hx hf')
        · have e5 : eends r ⟨hand, ⟨4, ja, jb, jc, jh⟩, 5, nx, e0, f0, w0, given, mask, ⟨ok, tv⟩⟩ x = true := by simp [eends, a9]
          have e7 : ecell r (enext r ⟨hand, ⟨4, ja, jb, jc, jh⟩, 5, nx, e0, f0, w0, given, mask, ⟨ok, tv⟩⟩ x) = rpC hand r 4 (nx + 1) f0 given (mput mask nx) ⟨true, (mput mask nx)⟩ := by simp [ecell, enext, hok, a9]
          rw [e5, e7]
          first | rw [if_pos rfl] | rw [if_neg (by decide)]
          exact ps5 h hm h1 h2 (fun w1 r1 m1 => p_give_ok r1 m1 h1 h2 ⟨hnx.1, hn64⟩ hmk rfl hok (fun w2 r2 => goon_end r2 ⟨hnx.1, by omega⟩ a9) hx hf')

theorem e_ans {w : World} {b : Nat} {hand seen : Int} {ld : Bool} {t : Ans} (h : w.rowIs b 111 5 (enC hand seen ld t)) :
    Calls Try.prog 101 #[.pointer (some ⟨b, 0, none⟩)] w fun e w' => e = .returned t.value ∧ w.grownBy w' none := by
  obtain ⟨ok, val⟩ := t
  have h6 : w.cell? ⟨b, 1, none⟩ = some (.bool ok) := h.cell (i := 1) (by omega)
  have h7 : w.cell? ⟨b, 2, none⟩ = some (.int .u64 val) := h.cell (i := 2) (by omega)
  have hl := h.lt
  go_enter Try.func101, Try.ntmps101
  go_wp2
  go_light
  refine bodyPost_ret (v := Ans.value ⟨ok, val⟩) ?_ rfl ⟨rfl, grown_alloc (grown_refl _ _) _⟩
  simp [results, Try.results101, go_sem, Ans.value]

theorem l_ans {w : World} {b : Nat} {hand : Int} {t : Ans} (h : w.rowIs b 114 3 (lvC hand t)) :
    Calls Try.prog 101 #[.pointer (some ⟨b, 0, none⟩)] w fun e w' => e = .returned t.value ∧ w.grownBy w' none := by
  obtain ⟨ok, val⟩ := t
  have h6 : w.cell? ⟨b, 1, none⟩ = some (.bool ok) := h.cell (i := 1) (by omega)
  have h7 : w.cell? ⟨b, 2, none⟩ = some (.int .u64 val) := h.cell (i := 2) (by omega)
  have hl := h.lt
  go_enter Try.func101, Try.ntmps101
  go_wp2
  go_light
  refine bodyPost_ret (v := Ans.value ⟨ok, val⟩) ?_ rfl ⟨rfl, grown_alloc (grown_refl _ _) _⟩
  simp [results, Try.results101, go_sem, Ans.value]

theorem r_ans {w : World} {b : Nat} {hand place seen : Int} {ld : Bool} {t : Ans} (h : w.rowIs b 117 6 (rtC hand place seen ld t)) :
    Calls Try.prog 101 #[.pointer (some ⟨b, 0, none⟩)] w fun e w' => e = .returned t.value ∧ w.grownBy w' none := by
  obtain ⟨ok, val⟩ := t
  have h6 : w.cell? ⟨b, 1, none⟩ = some (.bool ok) := h.cell (i := 1) (by omega)
  have h7 : w.cell? ⟨b, 2, none⟩ = some (.int .u64 val) := h.cell (i := 2) (by omega)
  have hl := h.lt
  go_enter Try.func101, Try.ntmps101
  go_wp2
  go_light
  refine bodyPost_ret (v := Ans.value ⟨ok, val⟩) ?_ rfl ⟨rfl, grown_alloc (grown_refl _ _) _⟩
  simp [results, Try.results101, go_sem, Ans.value]

theorem p_ans {w : World} {b : Nat} {hand room st nx seen given mask : Int} {t : Ans} (h : w.rowIs b 120 9 (rpC hand room st nx seen given mask t)) :
    Calls Try.prog 101 #[.pointer (some ⟨b, 0, none⟩)] w fun e w' => e = .returned t.value ∧ w.grownBy w' none := by
  obtain ⟨ok, val⟩ := t
  have h6 : w.cell? ⟨b, 1, none⟩ = some (.bool ok) := h.cell (i := 1) (by omega)
  have h7 : w.cell? ⟨b, 2, none⟩ = some (.int .u64 val) := h.cell (i := 2) (by omega)
  have hl := h.lt
  go_enter Try.func101, Try.ntmps101
  go_wp2
  go_light
  refine bodyPost_ret (v := Ans.value ⟨ok, val⟩) ?_ rfl ⟨rfl, grown_alloc (grown_refl _ _) _⟩
  simp [results, Try.results101, go_sem, Ans.value]

theorem ms1 (b : Nat) (w : World) : (method 306 109 (.pointer (some ⟨b, 0, none⟩)) "Step").run Try.prog w = .ok (102, .pointer (some ⟨b, 0, none⟩)) w := by kernel_rfl
theorem ma1 (b : Nat) (w : World) : (method 306 109 (.pointer (some ⟨b, 0, none⟩)) "Answer").run Try.prog w = .ok (101, .pointer (some ⟨b, 0, none⟩)) w := by kernel_rfl
theorem cs1 (args : Array Value) (w : World) : (callFunc 102 args).run Try.prog w = .ok (.enter 102 args) w := by simp [go_sem]
theorem ms2 (b : Nat) (w : World) : (method 306 112 (.pointer (some ⟨b, 0, none⟩)) "Step").run Try.prog w = .ok (114, .pointer (some ⟨b, 0, none⟩)) w := by kernel_rfl
theorem ma2 (b : Nat) (w : World) : (method 306 112 (.pointer (some ⟨b, 0, none⟩)) "Answer").run Try.prog w = .ok (101, .pointer (some ⟨b, 0, none⟩)) w := by kernel_rfl
theorem cs2 (args : Array Value) (w : World) : (callFunc 114 args).run Try.prog w = .ok (.enter 114 args) w := by simp [go_sem]
theorem ms3 (b : Nat) (w : World) : (method 306 115 (.pointer (some ⟨b, 0, none⟩)) "Step").run Try.prog w = .ok (115, .pointer (some ⟨b, 0, none⟩)) w := by kernel_rfl
theorem ma3 (b : Nat) (w : World) : (method 306 115 (.pointer (some ⟨b, 0, none⟩)) "Answer").run Try.prog w = .ok (101, .pointer (some ⟨b, 0, none⟩)) w := by kernel_rfl
theorem cs3 (args : Array Value) (w : World) : (callFunc 115 args).run Try.prog w = .ok (.enter 115 args) w := by simp [go_sem]
theorem ms4 (b : Nat) (w : World) : (method 306 118 (.pointer (some ⟨b, 0, none⟩)) "Step").run Try.prog w = .ok (117, .pointer (some ⟨b, 0, none⟩)) w := by kernel_rfl
theorem ma4 (b : Nat) (w : World) : (method 306 118 (.pointer (some ⟨b, 0, none⟩)) "Answer").run Try.prog w = .ok (101, .pointer (some ⟨b, 0, none⟩)) w := by kernel_rfl
theorem cs4 (args : Array Value) (w : World) : (callFunc 117 args).run Try.prog w = .ok (.enter 117 args) w := by simp [go_sem]
theorem ca1 (args : Array Value) (w : World) : (callFunc 101 args).run Try.prog w = .ok (.enter 101 args) w := by simp [go_sem]
theorem fine_four {r : Int} {j : Jb} (h : (kEpoch r).fine j) (p : Jb → Prop) (h1 : ∀ a b c d, p ⟨1, a, b, c, d⟩) (h2 : ∀ a b c d, p ⟨2, a, b, c, d⟩) (h3 : ∀ a b c d, p ⟨3, a, b, c, d⟩) (h4 : ∀ a b c d, p ⟨4, a, b, c, d⟩) : p j := by
  obtain ⟨kind, a, b, c, d⟩ := j
  have hk := (fine_cases h).1
  simp only at hk
  rcases hk with rfl | rfl | ⟨rfl, _⟩ | rfl
  · exact h1 a b c d
  · exact h2 a b c d
  · exact h3 a b c d
  · exact h4 a b c d
theorem ans_any {r : Int} {w : World} {b : Nat} {s : EpS} {j : Jb} (hf : (kEpoch r).fine j) (hj : s.j = j) (h : w.rowIs b ((kEpoch r).t j) ((kEpoch r).n j) (ecell r s)) :
    Calls Try.prog ((kEpoch r).fa j) #[.pointer (some ⟨b, 0, none⟩)] w fun e w' => e = .returned s.told.value ∧ w.grownBy w' none := by
  subst hj
  have hk := (fine_cases hf).1
  obtain ⟨hand, ⟨kind, ja, jb, jc, jh⟩, st, nx, e0, f0, w0, given, mask, t⟩ := s
  simp only at hk
  rcases hk with rfl | rfl | ⟨rfl, _⟩ | rfl
  · exact e_ans h
  · exact l_ans h
  · exact r_ans h
  · exact p_ans h

theorem isKind {r : Int} (hr : 1 ≤ r ∧ r ≤ 64) : IsKind (kEpoch r) where
  ok := ⟨fun h j hj => ⟨rfl, wf_init hr.1 h hj⟩, fun j s n f hf hs he => ⟨(enext_j r s _).trans hs.1, enext_wf hr hs.2 (had_bounds hf _) he⟩⟩
  step := fun hf hj h hm h1 h2 => step_any hr hj h hm h1 h2
  ans := fun hf hj h => by obtain ⟨s0, n, f, _, hw, rfl⟩ := hj; exact ans_any hf ((enext_j r s0 _).trans hw.1) h
  mstep := fun j hf b w => fine_four hf (fun j => (method 306 ((kEpoch r).tid j) (.pointer (some ⟨b, 0, none⟩)) "Step").run Try.prog w = .ok ((kEpoch r).fs j, .pointer (some ⟨b, 0, none⟩)) w) (fun _ _ _ _ => ms1 b w) (fun _ _ _ _ => ms2 b w) (fun _ _ _ _ => ms3 b w) (fun _ _ _ _ => ms4 b w)
  mans := fun j hf b w => fine_four hf (fun j => (method 306 ((kEpoch r).tid j) (.pointer (some ⟨b, 0, none⟩)) "Answer").run Try.prog w = .ok ((kEpoch r).fa j, .pointer (some ⟨b, 0, none⟩)) w) (fun _ _ _ _ => ma1 b w) (fun _ _ _ _ => ma2 b w) (fun _ _ _ _ => ma3 b w) (fun _ _ _ _ => ma4 b w)
  cstep := fun j hf args w => fine_four hf (fun j => (callFunc ((kEpoch r).fs j) args).run Try.prog w = .ok (.enter ((kEpoch r).fs j) args) w) (fun _ _ _ _ => cs1 args w) (fun _ _ _ _ => cs2 args w) (fun _ _ _ _ => cs3 args w) (fun _ _ _ _ => cs4 args w)
  cans := fun j hf args w => ca1 args w

end Epoch
end Go.Proofs.Ytbohmahjpolapaa
