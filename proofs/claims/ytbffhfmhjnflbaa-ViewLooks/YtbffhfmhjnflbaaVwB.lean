/-
  View: the parts of a memory by its shape: acks, roots, weaks, an object's words.
-/
import Derived.Test.YtbffhfmhjnflbaaVwA
namespace Go.Proofs.Ytbffhfmhjnflbaa
open Go.RowKit
set_option linter.unusedVariables false
set_option linter.unusedSimpArgs false
set_option linter.unnecessarySimpa false
set_option maxRecDepth 20000
namespace Vw
open Shape

theorem at_root {x : Sh} (H : x.Ok) {j : Nat} (hj : j < x.h) : bR x + j * x.r + x.r ≤ bK x ∧ j * x.r + x.r ≤ 56 := by
  have h1 : (j + 1) * x.r ≤ x.h * x.r := Nat.mul_le_mul_right _ hj
  rw [Nat.succ_mul] at h1
  have := sizes H
  unfold bK
  omega
theorem at_obj {x : Sh} (H : x.Ok) {j : Nat} (hj : j < x.o) : pO x j + ow x ≤ size x ∧ j * ow x + ow x ≤ 448 := by
  have h1 : (j + 1) * ow x ≤ x.o * ow x := Nat.mul_le_mul_right _ hj
  rw [Nat.succ_mul] at h1
  have := sizes H
  unfold pO size
  omega
theorem lay_out (x : Sh) : bR x = 8 + x.h ∧ bK x = bR x + x.h * x.r ∧ bO x = bK x + x.k ∧ size x = bO x + x.o * ow x ∧ ow x = 3 + x.s := ⟨rfl, rfl, rfl, rfl, rfl⟩
theorem sc_ack {o s h r k : Nat} {s5 : Int} (H : (⟨o, s, h, r, k⟩ : Sh).Ok)  (w : World) : Calls Try.prog 79 #[.agg #[.int .i64 (o : Int), .int .i64 (s : Int), .int .i64 (h : Int), .int .i64 (r : Int), .int .i64 (k : Int), .int .i64 s5], .int .i64 0] w fun e w' => e = .returned (.tuple #[.int .i64 ((8 : Nat) : Int), .int .i64 0]) ∧ Below w.heap.size w w' := by
  have := ack_ok (s5 := s5) (a := 0) H rfl (show 0 < h from H.h1) w
  simpa using this
theorem sc_root {o s h r k : Nat} {s5 : Int} (H : (⟨o, s, h, r, k⟩ : Sh).Ok) {j : Nat} (hj : j < h) (w : World) : Calls Try.prog 81 #[.agg #[.int .i64 (o : Int), .int .i64 (s : Int), .int .i64 (h : Int), .int .i64 (r : Int), .int .i64 (k : Int), .int .i64 s5], .int .i64 (j : Int), .int .i64 0] w fun e w' => e = .returned (.tuple #[.int .i64 ((bR ⟨o, s, h, r, k⟩ + j * r : Nat) : Int), .int .i64 0]) ∧ Below w.heap.size w w' := by
  have h1 := (at_root H hj).2
  have := root_ok (s5 := s5) (a := j) (b := 0) H rfl (show j * r ≤ 56 by simp only at h1; omega) hj (show 0 < r from H.r1) w
  rw [show ((bR ⟨o, s, h, r, k⟩ + j * r : Nat) : Int) = 8 + (h : Int) + ((j * r : Nat) : Int) from by simp only [bR]; omega]
  simpa using this
theorem sc_weak {o s h r k : Nat} {s5 : Int} (H : (⟨o, s, h, r, k⟩ : Sh).Ok) (hk : 0 < k) (w : World) : Calls Try.prog 82 #[.agg #[.int .i64 (o : Int), .int .i64 (s : Int), .int .i64 (h : Int), .int .i64 (r : Int), .int .i64 (k : Int), .int .i64 s5], .int .i64 0] w fun e w' => e = .returned (.tuple #[.int .i64 ((bK ⟨o, s, h, r, k⟩ : Nat) : Int), .int .i64 0]) ∧ Below w.heap.size w w' := by
  have := weak_ok (s5 := s5) (a := 0) H rfl hk w
  rw [show ((bK ⟨o, s, h, r, k⟩ : Nat) : Int) = 8 + (h : Int) + ((h * r : Nat) : Int) from by simp only [bK, bR]; omega]
  simpa using this
theorem sc_weak0 {o s h r k : Nat} {s5 : Int} (H : (⟨o, s, h, r, k⟩ : Sh).Ok) (hk : k = 0) (w : World) : Calls Try.prog 82 #[.agg #[.int .i64 (o : Int), .int .i64 (s : Int), .int .i64 (h : Int), .int .i64 (r : Int), .int .i64 (k : Int), .int .i64 s5], .int .i64 0] w fun e w' => e = .returned (.tuple #[.int .i64 ((0 : Nat) : Int), .int .i64 2]) ∧ Below w.heap.size w w' := by
  subst hk
  exact weak_arg (s5 := s5) (r5 H) (by omega) w
theorem sc_obj {o s h r k : Nat} {s5 : Int} (H : (⟨o, s, h, r, k⟩ : Sh).Ok) {j : Nat} (hj : j < o) (w : World) : Calls Try.prog 84 #[.agg #[.int .i64 (o : Int), .int .i64 (s : Int), .int .i64 (h : Int), .int .i64 (r : Int), .int .i64 (k : Int), .int .i64 s5], .int .i64 ((j : Int) + 1)] w fun e w' => e = .returned (.tuple #[.int .i64 ((pO ⟨o, s, h, r, k⟩ j : Nat) : Int), .int .i64 0]) ∧ Below w.heap.size w w' := by
  have h1 := (at_obj H hj).2
  have := object_ok (s5 := s5) (a := j + 1) (q := j * (3 + s)) H rfl (by omega) hj (by simp) (show j * (3 + s) ≤ 448 by simp only [ow] at h1; omega) w
  rw [show ((pO ⟨o, s, h, r, k⟩ j : Nat) : Int) = 8 + (h : Int) + ((h * r : Nat) : Int) + (k : Int) + ((j * (3 + s) : Nat) : Int) from by simp only [pO, bO, bK, bR, ow]; omega]
  rw [show ((j : Int) + 1) = ((j + 1 : Nat) : Int) by omega]
  exact this

set_option maxHeartbeats 1000000 in
theorem acks_ok {o s h r k b off z cap : Nat} {s5 : Int} (H : (⟨o, s, h, r, k⟩ : Sh).Ok) (hz : size ⟨o, s, h, r, k⟩ = z) (hc : z ≤ cap)  (w : World) : Calls Try.prog 51 #[.agg #[.int .i64 (o : Int), .int .i64 (s : Int), .int .i64 (h : Int), .int .i64 (r : Int), .int .i64 (k : Int), .int .i64 s5, .slice (some ⟨b, off, none⟩) z cap]] w fun e w' => (∃ p cp, e = .returned (.slice (some p) (h) cp) ∧ h ≤ cp ∧ (0 < h → p = ⟨b, off + (8), none⟩)) ∧ Below w.heap.size w w' := by
  obtain ⟨g1, g2, g3, g4, g5, g6, g7, g8, g9, g10⟩ := bnds H
  obtain ⟨a1, ha1⟩ : ∃ a1, 8 = a1 := ⟨_, rfl⟩
  have z600 := (sizes H).2.2.2.2
  have hfit : a1 + (h) ≤ z := by
    rw [← ha1, ← hz]
    have := lay_out ⟨o, s, h, r, k⟩
    simp only at this ⊢
    omega
  have SC := hide (fun w1 => sc_ack (s5 := s5) H  w1)
  rw [hz] at z600
  rw [ha1] at SC ⊢
  have PO := hide (fun w1 => part_ok (o := o) (s := s) (h := h) (r := r) (k := k) (b := b) (off := off) (z := z) (cap := cap) (s5 := s5) (at' := a1) (n := h) hfit hc z600 w1)
  clear H hz ha1 g6 g7
  obtain ⟨W0, hW0, B0, K⟩ := mbox w o s h r k b off z cap s5
  have HB := hide B0
  obtain ⟨-, l0, x0, x1, x2, x3, x4, x5, x6⟩ := K.out W0 (Below.refl _ _)
  clear B0
  go_enter Try.func51, Try.ntmps51
  go_wp2_with (first | (go_at_call 79; refine (SC.out _).mono ?_; rintro e w1 ⟨rfl, hb1⟩; have HB1 := hide hb1; clear hb1; obtain ⟨-, m1, y0, y1, y2, y3, y4, y5, y6⟩ := K.out w1 HB1.out) | (go_at_call 80; refine (PO.out _).mono ?_; rintro e w2 ⟨⟨p, cp, rfl, hcp, hp⟩, hb2⟩; have HP := hide hp; clear hp; have HB2 := hide (HB1.out.trans (hb2.mono HB1.out.size)); clear hb2))
  go_ret
  exact ⟨⟨p, cp, rfl, hcp, HP.out⟩, (K.out _ HB2.out).1⟩

set_option maxHeartbeats 1000000 in
theorem roots_ok {o s h r k b off z cap : Nat} {s5 : Int} (H : (⟨o, s, h, r, k⟩ : Sh).Ok) (hz : size ⟨o, s, h, r, k⟩ = z) (hc : z ≤ cap) {j : Nat} (hj : j < h) (w : World) : Calls Try.prog 52 #[.agg #[.int .i64 (o : Int), .int .i64 (s : Int), .int .i64 (h : Int), .int .i64 (r : Int), .int .i64 (k : Int), .int .i64 s5, .slice (some ⟨b, off, none⟩) z cap], .int .i64 (j : Int)] w fun e w' => (∃ p cp, e = .returned (.slice (some p) (r) cp) ∧ r ≤ cp ∧ (0 < r → p = ⟨b, off + (bR ⟨o, s, h, r, k⟩ + j * r), none⟩)) ∧ Below w.heap.size w w' := by
  obtain ⟨g1, g2, g3, g4, g5, g6, g7, g8, g9, g10⟩ := bnds H
  obtain ⟨a1, ha1⟩ : ∃ a1, bR ⟨o, s, h, r, k⟩ + j * r = a1 := ⟨_, rfl⟩
  have z600 := (sizes H).2.2.2.2
  have hfit : a1 + (r) ≤ z := by
    rw [← ha1, ← hz]
    have := lay_out ⟨o, s, h, r, k⟩
    have := (at_root H hj).1
    simp only at this ⊢
    omega
  have SC := hide (fun w1 => sc_root (s5 := s5) H hj w1)
  rw [hz] at z600
  rw [ha1] at SC ⊢
  have PO := hide (fun w1 => part_ok (o := o) (s := s) (h := h) (r := r) (k := k) (b := b) (off := off) (z := z) (cap := cap) (s5 := s5) (at' := a1) (n := r) hfit hc z600 w1)
  clear H hz ha1 g6 g7
  obtain ⟨W0, hW0, B0, K⟩ := mbox w o s h r k b off z cap s5
  have HB := hide B0
  obtain ⟨-, l0, x0, x1, x2, x3, x4, x5, x6⟩ := K.out W0 (Below.refl _ _)
  clear B0
  go_enter Try.func52, Try.ntmps52
  go_wp2_with (first | (go_at_call 81; refine (SC.out _).mono ?_; rintro e w1 ⟨rfl, hb1⟩; have HB1 := hide hb1; clear hb1; obtain ⟨-, m1, y0, y1, y2, y3, y4, y5, y6⟩ := K.out w1 HB1.out) | (go_at_call 80; refine (PO.out _).mono ?_; rintro e w2 ⟨⟨p, cp, rfl, hcp, hp⟩, hb2⟩; have HP := hide hp; clear hp; have HB2 := hide (HB1.out.trans (hb2.mono HB1.out.size)); clear hb2))
  go_ret
  exact ⟨⟨p, cp, rfl, hcp, HP.out⟩, (K.out _ HB2.out).1⟩

set_option maxHeartbeats 1000000 in
theorem weaks_some {o s h r k b off z cap : Nat} {s5 : Int} (H : (⟨o, s, h, r, k⟩ : Sh).Ok) (hz : size ⟨o, s, h, r, k⟩ = z) (hc : z ≤ cap) (hk : 0 < k) (w : World) : Calls Try.prog 53 #[.agg #[.int .i64 (o : Int), .int .i64 (s : Int), .int .i64 (h : Int), .int .i64 (r : Int), .int .i64 (k : Int), .int .i64 s5, .slice (some ⟨b, off, none⟩) z cap]] w fun e w' => (∃ p cp, e = .returned (.slice (some p) (k) cp) ∧ k ≤ cp ∧ (0 < k → p = ⟨b, off + (bK ⟨o, s, h, r, k⟩), none⟩)) ∧ Below w.heap.size w w' := by
  obtain ⟨g1, g2, g3, g4, g5, g6, g7, g8, g9, g10⟩ := bnds H
  obtain ⟨a1, ha1⟩ : ∃ a1, bK ⟨o, s, h, r, k⟩ = a1 := ⟨_, rfl⟩
  have z600 := (sizes H).2.2.2.2
  have hfit : a1 + (k) ≤ z := by
    rw [← ha1, ← hz]
    have := lay_out ⟨o, s, h, r, k⟩
    simp only at this ⊢
    omega
  have SC := hide (fun w1 => sc_weak (s5 := s5) H hk w1)
  rw [hz] at z600
  rw [ha1] at SC ⊢
  have PO := hide (fun w1 => part_ok (o := o) (s := s) (h := h) (r := r) (k := k) (b := b) (off := off) (z := z) (cap := cap) (s5 := s5) (at' := a1) (n := k) hfit hc z600 w1)
  clear H hz ha1 g6 g7
  obtain ⟨W0, hW0, B0, K⟩ := mbox w o s h r k b off z cap s5
  have HB := hide B0
  obtain ⟨-, l0, x0, x1, x2, x3, x4, x5, x6⟩ := K.out W0 (Below.refl _ _)
  clear B0
  go_enter Try.func53, Try.ntmps53
  go_wp2_with (first | (go_at_call 82; refine (SC.out _).mono ?_; rintro e w1 ⟨rfl, hb1⟩; have HB1 := hide hb1; clear hb1; obtain ⟨-, m1, y0, y1, y2, y3, y4, y5, y6⟩ := K.out w1 HB1.out) | (go_at_call 80; refine (PO.out _).mono ?_; rintro e w2 ⟨⟨p, cp, rfl, hcp, hp⟩, hb2⟩; have HP := hide hp; clear hp; have HB2 := hide (HB1.out.trans (hb2.mono HB1.out.size)); clear hb2))
  go_ret
  exact ⟨⟨p, cp, rfl, hcp, HP.out⟩, (K.out _ HB2.out).1⟩

set_option maxHeartbeats 1000000 in
theorem weaks_none {o s h r k b off z cap : Nat} {s5 : Int} (H : (⟨o, s, h, r, k⟩ : Sh).Ok) (hz : size ⟨o, s, h, r, k⟩ = z) (hc : z ≤ cap) (hk : k = 0) (w : World) : Calls Try.prog 53 #[.agg #[.int .i64 (o : Int), .int .i64 (s : Int), .int .i64 (h : Int), .int .i64 (r : Int), .int .i64 (k : Int), .int .i64 s5, .slice (some ⟨b, off, none⟩) z cap]] w fun e w' => (∃ p cp, e = .returned (.slice (some p) (k) cp) ∧ k ≤ cp ∧ (0 < k → p = ⟨b, off + (0), none⟩)) ∧ Below w.heap.size w w' := by
  obtain ⟨g1, g2, g3, g4, g5, g6, g7, g8, g9, g10⟩ := bnds H
  have z600 := (sizes H).2.2.2.2
  have hfit : 0 + k ≤ z := by
    rw [← hz]
    have := lay_out ⟨o, s, h, r, k⟩
    simp only at this ⊢
    omega
  have SC := hide (fun w1 => sc_weak0 (s5 := s5) H hk w1)
  rw [hz] at z600
  simp only [show ((0 : Nat) : Int) = 0 from rfl] at SC
  have PO := hide (fun w1 => part_ok (o := o) (s := s) (h := h) (r := r) (k := k) (b := b) (off := off) (z := z) (cap := cap) (s5 := s5) (at' := 0) (n := k) hfit hc z600 w1)
  simp only [show ((0 : Nat) : Int) = 0 from rfl] at PO
  clear H hz hk g6 g7
  obtain ⟨W0, hW0, B0, K⟩ := mbox w o s h r k b off z cap s5
  have HB := hide B0
  obtain ⟨-, l0, x0, x1, x2, x3, x4, x5, x6⟩ := K.out W0 (Below.refl _ _)
  clear B0
  go_enter Try.func53, Try.ntmps53
  go_wp2_with (first | (go_at_call 82; refine (SC.out _).mono ?_; rintro e w1 ⟨rfl, hb1⟩; have HB1 := hide hb1; clear hb1; obtain ⟨-, m1, y0, y1, y2, y3, y4, y5, y6⟩ := K.out w1 HB1.out) | (go_at_call 80; refine (PO.out _).mono ?_; rintro e w2 ⟨⟨p, cp, rfl, hcp, hp⟩, hb2⟩; have HP := hide hp; clear hp; have HB2 := hide (HB1.out.trans (hb2.mono HB1.out.size)); clear hb2))
  go_ret
  exact ⟨⟨p, cp, rfl, hcp, HP.out⟩, (K.out _ HB2.out).1⟩

set_option maxHeartbeats 1000000 in
theorem object_ok {o s h r k b off z cap : Nat} {s5 : Int} (H : (⟨o, s, h, r, k⟩ : Sh).Ok) (hz : size ⟨o, s, h, r, k⟩ = z) (hc : z ≤ cap) {j : Nat} (hj : j < o) (w : World) : Calls Try.prog 55 #[.agg #[.int .i64 (o : Int), .int .i64 (s : Int), .int .i64 (h : Int), .int .i64 (r : Int), .int .i64 (k : Int), .int .i64 s5, .slice (some ⟨b, off, none⟩) z cap], .int .i64 ((j : Int) + 1)] w fun e w' => (∃ p cp, e = .returned (.slice (some p) (3 + s) cp) ∧ 3 + s ≤ cp ∧ (0 < 3 + s → p = ⟨b, off + (pO ⟨o, s, h, r, k⟩ j), none⟩)) ∧ Below w.heap.size w w' := by
  obtain ⟨g1, g2, g3, g4, g5, g6, g7, g8, g9, g10⟩ := bnds H
  obtain ⟨a1, ha1⟩ : ∃ a1, pO ⟨o, s, h, r, k⟩ j = a1 := ⟨_, rfl⟩
  have z600 := (sizes H).2.2.2.2
  have hfit : a1 + (3 + s) ≤ z := by
    rw [← ha1, ← hz]
    have := (at_obj H hj).1
    simp only [ow] at this ⊢
    omega
  have SC := hide (fun w1 => sc_obj (s5 := s5) H hj w1)
  rw [hz] at z600
  rw [ha1] at SC ⊢
  have PO := hide (fun w1 => part_ok (o := o) (s := s) (h := h) (r := r) (k := k) (b := b) (off := off) (z := z) (cap := cap) (s5 := s5) (at' := a1) (n := 3 + s) hfit hc z600 w1)
  clear H hz ha1 g6 g7
  obtain ⟨W0, hW0, B0, K⟩ := mbox w o s h r k b off z cap s5
  have HB := hide B0
  obtain ⟨-, l0, x0, x1, x2, x3, x4, x5, x6⟩ := K.out W0 (Below.refl _ _)
  clear B0
  go_enter Try.func55, Try.ntmps55
  go_wp2_with (first | (go_at_call 84; refine (SC.out _).mono ?_; rintro e w1 ⟨rfl, hb1⟩; have HB1 := hide hb1; clear hb1; obtain ⟨-, m1, y0, y1, y2, y3, y4, y5, y6⟩ := K.out w1 HB1.out) | (go_at_call 80; refine (PO.out _).mono ?_; rintro e w2 ⟨⟨p, cp, rfl, hcp, hp⟩, hb2⟩; have HP := hide hp; clear hp; have HB2 := hide (HB1.out.trans (hb2.mono HB1.out.size)); clear hb2))
  go_ret
  exact ⟨⟨p, cp, rfl, hcp, HP.out⟩, (K.out _ HB2.out).1⟩
theorem weaks_ok {o s h r k b off z cap : Nat} {s5 : Int} (H : (⟨o, s, h, r, k⟩ : Sh).Ok) (hz : size ⟨o, s, h, r, k⟩ = z) (hc : z ≤ cap) (w : World) : Calls Try.prog 53 #[.agg #[.int .i64 (o : Int), .int .i64 (s : Int), .int .i64 (h : Int), .int .i64 (r : Int), .int .i64 (k : Int), .int .i64 s5, .slice (some ⟨b, off, none⟩) z cap]] w fun e w' => (∃ p cp, e = .returned (.slice (some p) k cp) ∧ k ≤ cp ∧ (0 < k → p = ⟨b, off + bK ⟨o, s, h, r, k⟩, none⟩)) ∧ Below w.heap.size w w' := by
  by_cases hk : 0 < k
  · exact weaks_some H hz hc hk w
  · refine (weaks_none (b := b) (off := off) (s5 := s5) H hz hc (by omega) w).mono ?_
    rintro e w' ⟨⟨p, cp, h1, h2, h3⟩, h4⟩
    exact ⟨⟨p, cp, h1, h2, fun h => absurd h hk⟩, h4⟩
end Vw
end Go.Proofs.Ytbffhfmhjnflbaa
