/-
  Lemmas: DealK.
-/
import Derived.Test.YtdgolkdedghajaaTq29
/-
  The tasks of a deal: their kind: what each does is what its abstract task says.
-/
namespace Go.Proofs.Ytdgolkdedghajaa
open Go.RowKit
set_option linter.unusedVariables false
set_option linter.unusedSimpArgs false
set_option maxRecDepth 20000
namespace Deal

set_option maxHeartbeats 4000000 in
theorem step_any {r : Int} (hr : 1 ≤ r ∧ r ≤ 64) {w : World} {b bm bw n : Nat} {f : Nat → Int} {s : DeS} {j : Jb} (hj : s.j = j ∧ Wf s) (h : w.rowIs b ((kDeal r).t j) 8 (dcell r s)) (hm : IsMem w bm bw n f) (h1 : b ≠ bm) (h2 : b ≠ bw) :
    Calls Try.prog ((kDeal r).fs j) #[.pointer (some ⟨b, 0, none⟩), .pointer (some ⟨bm, 0, none⟩)] w fun e w' => e = .returned (.tuple #[(stepOf n f (dreq r s)).val, .int .i64 (if dends r s (stepOf n f (dreq r s)) = true then 1 else 0)]) ∧
      w'.rowIs b ((kDeal r).t j) 8 (dcell r (dnext r s (stepOf n f (dreq r s)))) ∧ IsMem w' bm bw n (wordsOf n f (dreq r s)) ∧ Touch w w' (fun k => k = b ∨ k = bw) := by
  obtain ⟨rfl, H⟩ := hj
  obtain ⟨x, hx⟩ : ∃ x, stepOf n f (dreq r s) = x := ⟨_, rfl⟩
  obtain ⟨f', hf'⟩ : ∃ f', wordsOf n f (dreq r s) = f' := ⟨_, rfl⟩
  rw [hx, hf']
  obtain ⟨hst, hh, hfst, hen, hval⟩ := H
  obtain ⟨hand, ⟨kind, ja, jb, jc, jh⟩, st, fst, en, val, ⟨ok, tv⟩⟩ := s
  simp only at hst hh hfst hen hval hx hf' h ⊢
  have ec : dcell r ⟨hand, ⟨kind, ja, jb, jc, jh⟩, st, fst, en, val, ⟨ok, tv⟩⟩ = mvC hand r st fst en val ⟨ok, tv⟩ := rfl
  rw [ec] at h
  rcases hst with ⟨rfl, hst⟩ | ⟨rfl, hst, hst'⟩ | ⟨rfl, hst⟩
  all_goals (simp only [show ∀ a b c d, (kDeal r).t ⟨1, a, b, c, d⟩ = 87 from fun _ _ _ _ => rfl, show ∀ a b c d, (kDeal r).fs ⟨1, a, b, c, d⟩ = 97 from fun _ _ _ _ => rfl, show ∀ a b c d, (kDeal r).t ⟨2, a, b, c, d⟩ = 89 from fun _ _ _ _ => rfl, show ∀ a b c d, (kDeal r).fs ⟨2, a, b, c, d⟩ = 116 from fun _ _ _ _ => rfl, show ∀ a b c d, (kDeal r).t ⟨3, a, b, c, d⟩ = 91 from fun _ _ _ _ => rfl, show ∀ a b c d, (kDeal r).fs ⟨3, a, b, c, d⟩ = 122 from fun _ _ _ _ => rfl] at h ⊢)
  · rcases hst with rfl | rfl | rfl | rfl
    · have e4 : dreq r ⟨hand, ⟨1, ja, jb, jc, jh⟩, 0, fst, en, val, ⟨ok, tv⟩⟩ = ⟨hand, 1, 1, 0, 0, true⟩ := by simp [dreq]
      rw [e4] at hx hf'
      have e5 : dends r ⟨hand, ⟨1, ja, jb, jc, jh⟩, 0, fst, en, val, ⟨ok, tv⟩⟩ x = false := by simp [dends]
      have e7 : dcell r (dnext r ⟨hand, ⟨1, ja, jb, jc, jh⟩, 0, fst, en, val, ⟨ok, tv⟩⟩ x) = mvC hand r 2 fst x.had val ⟨ok, tv⟩ := by simp [dcell, dnext]
      rw [e5, e7]
      first | rw [if_pos rfl] | rw [if_neg (by decide)]
      exact sl0 h hm h1 h2 (fun w1 r1 m1 => l_begin r1 m1 h1 h2 hx hf')
    · have e4 : dreq r ⟨hand, ⟨1, ja, jb, jc, jh⟩, 2, fst, en, val, ⟨ok, tv⟩⟩ = ⟨hand, 1, 0, 0, 0, true⟩ := by simp [dreq]
      rw [e4] at hx hf'
      by_cases a1 : r ≤ ahd en x.had
      ·
        have e5 : dends r ⟨hand, ⟨1, ja, jb, jc, jh⟩, 2, fst, en, val, ⟨ok, tv⟩⟩ x = true := by simp [dends, a1]
        have e7 : dcell r (dnext r ⟨hand, ⟨1, ja, jb, jc, jh⟩, 2, fst, en, val, ⟨ok, tv⟩⟩ x) = mvC hand r 2 x.had en val ⟨ok, tv⟩ := by simp [dcell, dnext, a1]
        rw [e5, e7]
        first | rw [if_pos rfl] | rw [if_neg (by decide)]
        exact sl2 h hm h1 h2 (fun w1 r1 m1 => l_full r1 m1 h1 h2 rfl a1 hx hf')
      ·
        have e5 : dends r ⟨hand, ⟨1, ja, jb, jc, jh⟩, 2, fst, en, val, ⟨ok, tv⟩⟩ x = false := by simp [dends, a1]
        have e7 : dcell r (dnext r ⟨hand, ⟨1, ja, jb, jc, jh⟩, 2, fst, en, val, ⟨ok, tv⟩⟩ x) = mvC hand r 3 x.had en val ⟨ok, tv⟩ := by simp [dcell, dnext, a1]
        rw [e5, e7]
        first | rw [if_pos rfl] | rw [if_neg (by decide)]
        exact sl2 h hm h1 h2 (fun w1 r1 m1 => l_room r1 m1 h1 h2 rfl a1 hx hf')
    · have e4 : dreq r ⟨hand, ⟨1, ja, jb, jc, jh⟩, 3, fst, en, val, ⟨ok, tv⟩⟩ = ⟨hand, 2, plc r en, 0, val, true⟩ := by simp [dreq]
      rw [e4] at hx hf'
      have e5 : dends r ⟨hand, ⟨1, ja, jb, jc, jh⟩, 3, fst, en, val, ⟨ok, tv⟩⟩ x = false := by simp [dends]
      have e7 : dcell r (dnext r ⟨hand, ⟨1, ja, jb, jc, jh⟩, 3, fst, en, val, ⟨ok, tv⟩⟩ x) = mvC hand r 5 fst en val ⟨ok, tv⟩ := by simp [dcell, dnext]
      rw [e5, e7]
      first | rw [if_pos rfl] | rw [if_neg (by decide)]
      exact sl3 h hm h1 h2 (fun w1 r1 m1 => l_touch r1 m1 h1 h2 hr hen hval rfl hx hf')
    · have e4 : dreq r ⟨hand, ⟨1, ja, jb, jc, jh⟩, 5, fst, en, val, ⟨ok, tv⟩⟩ = ⟨hand, 2, 1, 0, u64 (en + 1), true⟩ := by simp [dreq]
      rw [e4] at hx hf'
      have e5 : dends r ⟨hand, ⟨1, ja, jb, jc, jh⟩, 5, fst, en, val, ⟨ok, tv⟩⟩ x = true := by simp [dends]
      have e7 : dcell r (dnext r ⟨hand, ⟨1, ja, jb, jc, jh⟩, 5, fst, en, val, ⟨ok, tv⟩⟩ x) = mvC hand r 5 fst en val ⟨true, val⟩ := by simp [dcell, dnext]
      rw [e5, e7]
      first | rw [if_pos rfl] | rw [if_neg (by decide)]
      exact sl5 h hm h1 h2 (fun w1 r1 m1 => l_settle r1 m1 h1 h2 hx hf')
  · obtain rfl | rfl | rfl | rfl | rfl | rfl : st = 0 ∨ st = 1 ∨ st = 2 ∨ st = 3 ∨ st = 4 ∨ st = 5 := by omega
    · have e4 : dreq r ⟨hand, ⟨2, ja, jb, jc, jh⟩, 0, fst, en, val, ⟨ok, tv⟩⟩ = ⟨hand, 1, 1, 0, 0, true⟩ := by simp [dreq]
      rw [e4] at hx hf'
      have e5 : dends r ⟨hand, ⟨2, ja, jb, jc, jh⟩, 0, fst, en, val, ⟨ok, tv⟩⟩ x = false := by simp [dends]
      have e7 : dcell r (dnext r ⟨hand, ⟨2, ja, jb, jc, jh⟩, 0, fst, en, val, ⟨ok, tv⟩⟩ x) = mvC hand r 1 fst (u64 (x.had - 1)) val ⟨ok, tv⟩ := by simp [dcell, dnext]
      rw [e5, e7]
      first | rw [if_pos rfl] | rw [if_neg (by decide)]
      exact sd0 h hm h1 h2 (fun w1 r1 m1 => d_begin r1 m1 h1 h2 rfl hx hf')
    · have e4 : dreq r ⟨hand, ⟨2, ja, jb, jc, jh⟩, 1, fst, en, val, ⟨ok, tv⟩⟩ = ⟨hand, 2, 1, 0, en, true⟩ := by simp [dreq]
      rw [e4] at hx hf'
      have e5 : dends r ⟨hand, ⟨2, ja, jb, jc, jh⟩, 1, fst, en, val, ⟨ok, tv⟩⟩ x = false := by simp [dends]
      have e7 : dcell r (dnext r ⟨hand, ⟨2, ja, jb, jc, jh⟩, 1, fst, en, val, ⟨ok, tv⟩⟩ x) = mvC hand r 2 fst en val ⟨ok, tv⟩ := by simp [dcell, dnext]
      rw [e5, e7]
      first | rw [if_pos rfl] | rw [if_neg (by decide)]
      exact sd1 h hm h1 h2 (fun w1 r1 m1 => d_lessen r1 m1 h1 h2 hen hx hf')
    · have e4 : dreq r ⟨hand, ⟨2, ja, jb, jc, jh⟩, 2, fst, en, val, ⟨ok, tv⟩⟩ = ⟨hand, 1, 0, 0, 0, true⟩ := by simp [dreq]
      rw [e4] at hx hf'
      by_cases a1 : ahd en x.had < 0
      ·
        have e5 : dends r ⟨hand, ⟨2, ja, jb, jc, jh⟩, 2, fst, en, val, ⟨ok, tv⟩⟩ x = false := by simp [dends, a1]
        have e7 : dcell r (dnext r ⟨hand, ⟨2, ja, jb, jc, jh⟩, 2, fst, en, val, ⟨ok, tv⟩⟩ x) = mvC hand r 5 x.had en val ⟨ok, tv⟩ := by simp [dcell, dnext, a1]
        rw [e5, e7]
        first | rw [if_pos rfl] | rw [if_neg (by decide)]
        exact sd2 h hm h1 h2 (fun w1 r1 m1 => d_none r1 m1 h1 h2 rfl a1 hx hf')
      ·
        have e5 : dends r ⟨hand, ⟨2, ja, jb, jc, jh⟩, 2, fst, en, val, ⟨ok, tv⟩⟩ x = false := by simp [dends, a1]
        have e7 : dcell r (dnext r ⟨hand, ⟨2, ja, jb, jc, jh⟩, 2, fst, en, val, ⟨ok, tv⟩⟩ x) = mvC hand r 3 x.had en val ⟨ok, tv⟩ := by simp [dcell, dnext, a1]
        rw [e5, e7]
        first | rw [if_pos rfl] | rw [if_neg (by decide)]
        exact sd2 h hm h1 h2 (fun w1 r1 m1 => d_some r1 m1 h1 h2 rfl a1 hx hf')
    · have e4 : dreq r ⟨hand, ⟨2, ja, jb, jc, jh⟩, 3, fst, en, val, ⟨ok, tv⟩⟩ = ⟨hand, 1, plc r en, 0, 0, true⟩ := by simp [dreq]
      rw [e4] at hx hf'
      by_cases a1 : 0 < ahd en fst
      ·
        have e5 : dends r ⟨hand, ⟨2, ja, jb, jc, jh⟩, 3, fst, en, val, ⟨ok, tv⟩⟩ x = true := by simp [dends, a1]
        have e7 : dcell r (dnext r ⟨hand, ⟨2, ja, jb, jc, jh⟩, 3, fst, en, val, ⟨ok, tv⟩⟩ x) = mvC hand r 4 fst en x.had ⟨true, x.had⟩ := by simp [dcell, dnext, a1]
        rw [e5, e7]
        first | rw [if_pos rfl] | rw [if_neg (by decide)]
        exact sd3 h hm h1 h2 (fun w1 r1 m1 => d_own r1 m1 h1 h2 hr hen rfl rfl a1 hx hf')
      ·
        have e5 : dends r ⟨hand, ⟨2, ja, jb, jc, jh⟩, 3, fst, en, val, ⟨ok, tv⟩⟩ x = false := by simp [dends, a1]
        have e7 : dcell r (dnext r ⟨hand, ⟨2, ja, jb, jc, jh⟩, 3, fst, en, val, ⟨ok, tv⟩⟩ x) = mvC hand r 4 fst en x.had ⟨ok, tv⟩ := by simp [dcell, dnext, a1]
        rw [e5, e7]
        first | rw [if_pos rfl] | rw [if_neg (by decide)]
        exact sd3 h hm h1 h2 (fun w1 r1 m1 => d_last r1 m1 h1 h2 hr hen rfl rfl a1 hx hf')
    · have e4 : dreq r ⟨hand, ⟨2, ja, jb, jc, jh⟩, 4, fst, en, val, ⟨ok, tv⟩⟩ = ⟨hand, 5, 0, fst, u64 (fst + 1), true⟩ := by simp [dreq]
      rw [e4] at hx hf'
      cases hok : x.ok with
      | true =>
        have e5 : dends r ⟨hand, ⟨2, ja, jb, jc, jh⟩, 4, fst, en, val, ⟨ok, tv⟩⟩ x = false := by simp [dends, hok]
        have e7 : dcell r (dnext r ⟨hand, ⟨2, ja, jb, jc, jh⟩, 4, fst, en, val, ⟨ok, tv⟩⟩ x) = mvC hand r 5 fst en val ⟨true, val⟩ := by simp [dcell, dnext, hok]
        rw [e5, e7]
        first | rw [if_pos rfl] | rw [if_neg (by decide)]
        exact sd4_ok h hm h1 h2 hok hx hf'
      | false =>
        have e5 : dends r ⟨hand, ⟨2, ja, jb, jc, jh⟩, 4, fst, en, val, ⟨ok, tv⟩⟩ x = false := by simp [dends, hok]
        have e7 : dcell r (dnext r ⟨hand, ⟨2, ja, jb, jc, jh⟩, 4, fst, en, val, ⟨ok, tv⟩⟩ x) = mvC hand r 5 fst en val ⟨ok, tv⟩ := by simp [dcell, dnext, hok]
        rw [e5, e7]
        first | rw [if_pos rfl] | rw [if_neg (by decide)]
        exact sd4_no h hm h1 h2 hok hx hf'
    · have e4 : dreq r ⟨hand, ⟨2, ja, jb, jc, jh⟩, 5, fst, en, val, ⟨ok, tv⟩⟩ = ⟨hand, 2, 1, 0, u64 (en + 1), true⟩ := by simp [dreq]
      rw [e4] at hx hf'
      have e5 : dends r ⟨hand, ⟨2, ja, jb, jc, jh⟩, 5, fst, en, val, ⟨ok, tv⟩⟩ x = true := by simp [dends]
      have e7 : dcell r (dnext r ⟨hand, ⟨2, ja, jb, jc, jh⟩, 5, fst, en, val, ⟨ok, tv⟩⟩ x) = mvC hand r 5 fst en val ⟨ok, tv⟩ := by simp [dcell, dnext]
      rw [e5, e7]
      first | rw [if_pos rfl] | rw [if_neg (by decide)]
      exact sd5 h hm h1 h2 hx hf'
  · rcases hst with rfl | rfl | rfl | rfl
    · have e4 : dreq r ⟨hand, ⟨3, ja, jb, jc, jh⟩, 0, fst, en, val, ⟨ok, tv⟩⟩ = ⟨hand, 1, 0, 0, 0, true⟩ := by simp [dreq]
      rw [e4] at hx hf'
      have e5 : dends r ⟨hand, ⟨3, ja, jb, jc, jh⟩, 0, fst, en, val, ⟨ok, tv⟩⟩ x = false := by simp [dends]
      have e7 : dcell r (dnext r ⟨hand, ⟨3, ja, jb, jc, jh⟩, 0, fst, en, val, ⟨ok, tv⟩⟩ x) = mvC hand r 2 x.had en val ⟨ok, tv⟩ := by simp [dcell, dnext]
      rw [e5, e7]
      first | rw [if_pos rfl] | rw [if_neg (by decide)]
      exact sq0 h hm h1 h2 (fun w1 r1 m1 => t_begin r1 m1 h1 h2 hx hf')
    · have e4 : dreq r ⟨hand, ⟨3, ja, jb, jc, jh⟩, 2, fst, en, val, ⟨ok, tv⟩⟩ = ⟨hand, 1, 1, 0, 0, true⟩ := by simp [dreq]
      rw [e4] at hx hf'
      by_cases a1 : ahd x.had fst ≤ 0
      ·
        have e5 : dends r ⟨hand, ⟨3, ja, jb, jc, jh⟩, 2, fst, en, val, ⟨ok, tv⟩⟩ x = true := by simp [dends, a1]
        have e7 : dcell r (dnext r ⟨hand, ⟨3, ja, jb, jc, jh⟩, 2, fst, en, val, ⟨ok, tv⟩⟩ x) = mvC hand r 2 fst x.had val ⟨ok, tv⟩ := by simp [dcell, dnext, a1]
        rw [e5, e7]
        first | rw [if_pos rfl] | rw [if_neg (by decide)]
        exact sq2 h hm h1 h2 (fun w1 r1 m1 => t_none r1 m1 h1 h2 rfl a1 hx hf')
      ·
        have e5 : dends r ⟨hand, ⟨3, ja, jb, jc, jh⟩, 2, fst, en, val, ⟨ok, tv⟩⟩ x = false := by simp [dends, a1]
        have e7 : dcell r (dnext r ⟨hand, ⟨3, ja, jb, jc, jh⟩, 2, fst, en, val, ⟨ok, tv⟩⟩ x) = mvC hand r 3 fst x.had val ⟨ok, tv⟩ := by simp [dcell, dnext, a1]
        rw [e5, e7]
        first | rw [if_pos rfl] | rw [if_neg (by decide)]
        exact sq2 h hm h1 h2 (fun w1 r1 m1 => t_some r1 m1 h1 h2 rfl a1 hx hf')
    · have e4 : dreq r ⟨hand, ⟨3, ja, jb, jc, jh⟩, 3, fst, en, val, ⟨ok, tv⟩⟩ = ⟨hand, 1, plc r fst, 0, 0, true⟩ := by simp [dreq]
      rw [e4] at hx hf'
      have e5 : dends r ⟨hand, ⟨3, ja, jb, jc, jh⟩, 3, fst, en, val, ⟨ok, tv⟩⟩ x = false := by simp [dends]
      have e7 : dcell r (dnext r ⟨hand, ⟨3, ja, jb, jc, jh⟩, 3, fst, en, val, ⟨ok, tv⟩⟩ x) = mvC hand r 4 fst en x.had ⟨ok, tv⟩ := by simp [dcell, dnext]
      rw [e5, e7]
      first | rw [if_pos rfl] | rw [if_neg (by decide)]
      exact sq3 h hm h1 h2 (fun w1 r1 m1 => t_touch r1 m1 h1 h2 hr hfst rfl hx hf')
    · have e4 : dreq r ⟨hand, ⟨3, ja, jb, jc, jh⟩, 4, fst, en, val, ⟨ok, tv⟩⟩ = ⟨hand, 5, 0, fst, u64 (fst + 1), true⟩ := by simp [dreq]
      rw [e4] at hx hf'
      cases hok : x.ok with
      | true =>
        have e5 : dends r ⟨hand, ⟨3, ja, jb, jc, jh⟩, 4, fst, en, val, ⟨ok, tv⟩⟩ x = true := by simp [dends, hok]
        have e7 : dcell r (dnext r ⟨hand, ⟨3, ja, jb, jc, jh⟩, 4, fst, en, val, ⟨ok, tv⟩⟩ x) = mvC hand r 4 fst en val ⟨true, val⟩ := by simp [dcell, dnext, hok]
        rw [e5, e7]
        first | rw [if_pos rfl] | rw [if_neg (by decide)]
        exact sq4 h hm h1 h2 (fun w1 r1 m1 => t_won r1 m1 h1 h2 hok hx hf')
      | false =>
        have e5 : dends r ⟨hand, ⟨3, ja, jb, jc, jh⟩, 4, fst, en, val, ⟨ok, tv⟩⟩ x = false := by simp [dends, hok]
        have e7 : dcell r (dnext r ⟨hand, ⟨3, ja, jb, jc, jh⟩, 4, fst, en, val, ⟨ok, tv⟩⟩ x) = mvC hand r 0 fst en val ⟨ok, tv⟩ := by simp [dcell, dnext, hok]
        rw [e5, e7]
        first | rw [if_pos rfl] | rw [if_neg (by decide)]
        exact sq4 h hm h1 h2 (fun w1 r1 m1 => t_lost r1 m1 h1 h2 hok hx hf')

theorem mv_ans {w : World} {b T : Nat} {hand room st fst en val : Int} {t : Ans} (h : w.rowIs b T 8 (mvC hand room st fst en val t)) :
    Calls Try.prog 96 #[.pointer (some ⟨b, 0, none⟩)] w fun e w' => e = .returned t.value ∧ w.grownBy w' none := by
  obtain ⟨ok, val⟩ := t
  have h6 : w.cell? ⟨b, 6, none⟩ = some (.bool ok) := h.cell (i := 6) (by omega)
  have h7 : w.cell? ⟨b, 7, none⟩ = some (.int .u64 val) := h.cell (i := 7) (by omega)
  have hl := h.lt
  go_enter Try.func96, Try.ntmps96
  go_wp2
  go_light
  refine bodyPost_ret (v := Ans.value ⟨ok, val⟩) ?_ rfl ⟨rfl, grown_alloc (grown_refl _ _) _⟩
  simp [results, Try.results96, go_sem, Ans.value]

theorem ms1 (b : Nat) (w : World) : (method 298 85 (.pointer (some ⟨b, 0, none⟩)) "Step").run Try.prog w = .ok (97, .pointer (some ⟨b, 0, none⟩)) w := by kernel_rfl
theorem ma1 (b : Nat) (w : World) : (method 298 85 (.pointer (some ⟨b, 0, none⟩)) "Answer").run Try.prog w = .ok (96, .pointer (some ⟨b, 0, none⟩)) w := by kernel_rfl
theorem cs1 (args : Array Value) (w : World) : (callFunc 97 args).run Try.prog w = .ok (.enter 97 args) w := by simp [go_sem]
theorem ms2 (b : Nat) (w : World) : (method 298 88 (.pointer (some ⟨b, 0, none⟩)) "Step").run Try.prog w = .ok (116, .pointer (some ⟨b, 0, none⟩)) w := by kernel_rfl
theorem ma2 (b : Nat) (w : World) : (method 298 88 (.pointer (some ⟨b, 0, none⟩)) "Answer").run Try.prog w = .ok (96, .pointer (some ⟨b, 0, none⟩)) w := by kernel_rfl
theorem cs2 (args : Array Value) (w : World) : (callFunc 116 args).run Try.prog w = .ok (.enter 116 args) w := by simp [go_sem]
theorem ms3 (b : Nat) (w : World) : (method 298 90 (.pointer (some ⟨b, 0, none⟩)) "Step").run Try.prog w = .ok (122, .pointer (some ⟨b, 0, none⟩)) w := by kernel_rfl
theorem ma3 (b : Nat) (w : World) : (method 298 90 (.pointer (some ⟨b, 0, none⟩)) "Answer").run Try.prog w = .ok (96, .pointer (some ⟨b, 0, none⟩)) w := by kernel_rfl
theorem cs3 (args : Array Value) (w : World) : (callFunc 122 args).run Try.prog w = .ok (.enter 122 args) w := by simp [go_sem]
theorem ca (args : Array Value) (w : World) : (callFunc 96 args).run Try.prog w = .ok (.enter 96 args) w := by simp [go_sem]
theorem fine_three {r : Int} {j : Jb} (h : (kDeal r).fine j) (p : Jb → Prop) (h1 : ∀ a b c d, p ⟨1, a, b, c, d⟩) (h2 : ∀ a b c d, p ⟨2, a, b, c, d⟩) (h3 : ∀ a b c d, p ⟨3, a, b, c, d⟩) : p j := by
  obtain ⟨kind, a, b, c, d⟩ := j
  have hk := (fine_cases h).1
  simp only at hk
  rcases hk with rfl | rfl | rfl
  · exact h1 a b c d
  · exact h2 a b c d
  · exact h3 a b c d

theorem isKindO {r : Int} (hr : 1 ≤ r ∧ r ≤ 64) : IsKindO (kDeal r) where
  ok := ⟨fun h j hj => ⟨rfl, wf_init r h hj⟩, fun j s n f hf hs => ⟨(dnext_j r s _).trans hs.1, dnext_wf hs.2 (had_bounds hf _)⟩⟩
  step := fun hf hj h hm h1 h2 => step_any hr hj h hm h1 h2
  ans := fun hf hj h => mv_ans h
  mstep := fun j hf b w => fine_three hf (fun j => (method 298 ((kDeal r).tid j) (.pointer (some ⟨b, 0, none⟩)) "Step").run Try.prog w = .ok ((kDeal r).fs j, .pointer (some ⟨b, 0, none⟩)) w) (fun _ _ _ _ => ms1 b w) (fun _ _ _ _ => ms2 b w) (fun _ _ _ _ => ms3 b w)
  mans := fun j hf b w => fine_three hf (fun j => (method 298 ((kDeal r).tid j) (.pointer (some ⟨b, 0, none⟩)) "Answer").run Try.prog w = .ok ((kDeal r).fa j, .pointer (some ⟨b, 0, none⟩)) w) (fun _ _ _ _ => ma1 b w) (fun _ _ _ _ => ma2 b w) (fun _ _ _ _ => ma3 b w)
  cstep := fun j hf args w => fine_three hf (fun j => (callFunc ((kDeal r).fs j) args).run Try.prog w = .ok (.enter ((kDeal r).fs j) args) w) (fun _ _ _ _ => cs1 args w) (fun _ _ _ _ => cs2 args w) (fun _ _ _ _ => cs3 args w)
  cans := fun j hf args w => ca args w
theorem isKind {r : Int} (hr : 1 ≤ r ∧ r ≤ 64) : IsKind (kDeal r) := (isKindO hr).to

end Deal
end Go.Proofs.Ytdgolkdedghajaa
