/-
  View: ViewLooks: the law, of any shape and any words
-/
import Derived.Test.YtbffhfmhjnflbaaVwLw
import Derived.Test.YtbffhfmhjnflbaaVwRu
namespace Go.Proofs.Ytbffhfmhjnflbaa
open Go.RowKit
set_option linter.unusedVariables false
set_option linter.unusedSimpArgs false
set_option linter.unnecessarySimpa false
set_option maxRecDepth 20000
namespace Vw
open Shape
/-- A right shape's numbers are natural. -/
theorem nat_of {s0 s1 s2 s3 s4 : Int} (H : R5 s0 s1 s2 s3 s4) : ∃ o s h r k : Nat, s0 = o ∧ s1 = s ∧ s2 = h ∧ s3 = r ∧ s4 = k ∧ (⟨o, s, h, r, k⟩ : Sh).Ok := by
  obtain ⟨⟨a1, a2⟩, ⟨b1, b2⟩, ⟨c1, c2⟩, ⟨d1, d2⟩, ⟨e1, e2⟩⟩ := H
  exact ⟨s0.toNat, s1.toNat, s2.toNat, s3.toNat, s4.toNat, by omega, by omega, by omega, by omega, by omega, ⟨by simp only; omega, by simp only; omega, by simp only; omega, by simp only; omega, by simp only; omega, by simp only; omega, by simp only; omega, by simp only; omega⟩⟩
theorem looks_all {s0 s1 s2 s3 s4 s5 : Int} {ao : Option Addr} {m cap : Nat} {f : Nat → Int} {w : World} (hS : Sees w w.heap.size ao m f) (hN : ao = none → m = 0 ∧ cap = 0) (hcp : m ≤ cap) (hb1 : (m + 1) * 8 ≤ 140737488355328) (hf : ∀ i, i < m → 0 ≤ f i ∧ f i < 18446744073709551616) :
    Calls Try.prog 3 #[.agg #[.int .i64 s0, .int .i64 s1, .int .i64 s2, .int .i64 s3, .int .i64 s4, .int .i64 s5], .slice ao m cap] w fun e w' => e = .returned (.bool true) ∧ Below w.heap.size w w' := by
  by_cases H : R5 s0 s1 s2 s3 s4
  · obtain ⟨o, s, h, r, k, rfl, rfl, rfl, rfl, rfl, H'⟩ := nat_of H
    by_cases hz : size ⟨o, s, h, r, k⟩ = m
    · have h8 : 8 ≤ m := by rw [← hz]; have := lay_out ⟨o, s, h, r, k⟩; simp only at this; omega
      obtain ⟨b, off, rfl, _, _⟩ := hS 0 (by omega)
      have hf' : ∀ i, i < size ⟨o, s, h, r, k⟩ → 0 ≤ f i ∧ f i < 18446744073709551616 := by rw [hz]; exact hf
      have LR : ∀ w1, Below w.heap.size w w1 → _ := fun w1 hb => rlook_ok (s5 := s5) H' hz hcp w1 (sees_on hS hb) (Nat.le_refl _) hf
      have hna : (cv ⟨o, s, h, r, k⟩ f).na ≤ 70000 := by show h ≤ 70000; have := H'.h2; simp only at this; omega
      have SO : ∀ w1 a, Below w.heap.size w w1 → Shows w1 (cv ⟨o, s, h, r, k⟩ f) a → _ := fun w1 a hb hsh => sound13_cv (cap := cap) H' hz hsh (sees_on hS hb) hf
      by_cases hs : Sound ⟨o, s, h, r, k⟩ f
      · exact looks_walk (er := 0) (ec := 0) hS hN hb1 (cv_ok H' hf') hna LR (fun w1 g c2 hc2 h1 => Look_ok (s5 := s5) H' hz (by omega) w1 h1 (Nat.le_refl _) hf) (fun w1 g c2 hc2 h1 => check_yes (s5 := s5) H' hz (by omega) h1 (Nat.le_refl _) hf hs) (fun w1 hb => rcheck_sound (c := cv ⟨o, s, h, r, k⟩ f) (so := true) (hide (fun w2 h2 => LR w2 (hb.trans (h2.mono hb.size)))) (hide (fun w2 a h2 hsh => call_yes (SO w2 a (hb.trans (h2.mono hb.size)) hsh) hs)) rfl)
      · exact looks_walk (er := 0) (ec := 130) hS hN hb1 (cv_ok H' hf') hna LR (fun w1 g c2 hc2 h1 => Look_ok (s5 := s5) H' hz (by omega) w1 h1 (Nat.le_refl _) hf) (fun w1 g c2 hc2 h1 => check_no (s5 := s5) H' hz (by omega) h1 (Nat.le_refl _) hf hs) (fun w1 hb => rcheck_sound (c := cv ⟨o, s, h, r, k⟩ f) (so := false) (hide (fun w2 h2 => LR w2 (hb.trans (h2.mono hb.size)))) (hide (fun w2 a h2 hsh => call_no (SO w2 a (hb.trans (h2.mono hb.size)) hsh) hs)) rfl)
    · have hz' : ¬ m = size ⟨o, s, h, r, k⟩ := fun e => hz e.symm
      have LR : ∀ w1, Calls Try.prog 8 _ w1 fun e w' => (∃ a, e = .returned (.tuple #[vl cv0 a, .int .i64 121]) ∧ Hid (Owns w' w1.heap.size cv0 a)) ∧ Below w1.heap.size w1 w' := fun w1 => (rlook_len (s5 := s5) H' ao m cap hz' w1).mono (by rintro e w' ⟨rfl, hb⟩; exact ⟨⟨av0, rfl, owns0 _ _⟩, hb⟩)
      exact looks_walk (er := 121) (ec := 121) hS hN hb1 cv0_ok (by simp [cv0]) (fun w1 _ => LR w1) (fun w1 g c2 hc2 h1 => (look_len (s5 := s5) H' _ m c2 hz' w1).mono (by rintro e w' ⟨rfl, hb⟩; exact ⟨⟨av0, rfl, owns0 _ _⟩, hb⟩)) (fun w1 g c2 hc2 h1 => check_err (hide (fun w2 => memoryOf_len (s5 := s5) H' _ m c2 hz' w2)) (by decide)) (fun w1 hb => rcheck_err (c := cv0) (hide (fun w2 h2 => LR w2)) (by decide))
  · have LR : ∀ w1, Calls Try.prog 8 _ w1 fun e w' => (∃ a, e = .returned (.tuple #[vl cv0 a, .int .i64 120]) ∧ Hid (Owns w' w1.heap.size cv0 a)) ∧ Below w1.heap.size w1 w' := fun w1 => (rlook_bad (s5 := s5) H ao m cap w1).mono (by rintro e w' ⟨rfl, hb⟩; exact ⟨⟨av0, rfl, owns0 _ _⟩, hb⟩)
    exact looks_walk (er := 120) (ec := 120) hS hN hb1 cv0_ok (by simp [cv0]) (fun w1 _ => LR w1) (fun w1 g c2 hc2 h1 => (look_bad (s5 := s5) H _ m c2 w1).mono (by rintro e w' ⟨rfl, hb⟩; exact ⟨⟨av0, rfl, owns0 _ _⟩, hb⟩)) (fun w1 g c2 hc2 h1 => check_err (hide (fun w2 => memoryOf_bad (s5 := s5) H _ m c2 w2)) (by decide)) (fun w1 hb => rcheck_err (c := cv0) (hide (fun w2 h2 => LR w2)) (by decide))
end Vw
end Go.Proofs.Ytbffhfmhjnflbaa
