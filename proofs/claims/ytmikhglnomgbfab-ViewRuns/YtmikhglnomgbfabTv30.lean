/-
  Lemmas: VwZ, VwQ, VwT.
-/
import Derived.Test.YtmikhglnomgbfabTv29
/-
  View, pure: a fresh memory is sound.
-/
namespace Go.Proofs.Ytmikhglnomgbfab
open Go.RowKit
set_option linter.unusedVariables false
set_option linter.unusedSimpArgs false
set_option linter.unnecessarySimpa false
namespace Vw
open Shape
theorem F_zero {x : Sh} : ∀ {m j : Nat}, ¬ j = 1 → (∀ i, i < m → ¬ j = bO x + i * ow x + 1) → F x m j = 0
  | 0, j, h1, _ => by simp [F, putF, h1]
  | m + 1, j, h1, h2 => by
    have ih := F_zero (m := m) h1 (fun i hi => h2 i (by omega))
    simp only [F, putF]
    rw [if_neg (h2 m (by omega))]
    exact ih
def rng (k : Nat) : List Int := (List.range k).map fun (i : Nat) => (i : Int) + 1
theorem rng_more (k : Nat) : rng (k + 1) = rng k ++ [(k : Int) + 1] := by simp [rng, List.range_succ]
theorem rng_mem {k : Nat} {c : Int} : c ∈ rng k ↔ 1 ≤ c ∧ c ≤ (k : Int) := by
  simp only [rng, List.mem_map, List.mem_range]
  constructor
  · rintro ⟨i, hi, rfl⟩; omega
  · intro h; exact ⟨c.toNat - 1, by omega, by omega⟩
theorem al_rng {o : Nat} {nx : Int → Int} (hn : ∀ k, k < o → nx ((k : Int) + 1) = if k + 1 < o then (k : Int) + 2 else 0) : ∀ (d k : Nat), k + d = o → al o nx d (rng k) (if k < o then (k : Int) + 1 else 0) = (rng o, 0)
  | 0, k, h => by
    have : k = o := by omega
    subst this
    simp [al]
  | d + 1, k, h => by
    have hk : k < o := by omega
    simp only [al]
    rw [if_pos hk, if_pos ⟨by omega, by omega, fun hm => by have := rng_mem.1 hm; omega⟩, ← rng_more, hn k hk]
    have ih := al_rng hn d (k + 1) (by omega)
    rw [← ih]
    congr 1
theorem pO_link (x : Sh) (j : Nat) : pO x j + 1 = bO x + j * ow x + 1 := rfl
theorem fresh_free {x : Sh} (H : x.Ok) : lst x (F x (x.o - 1)) 1 1 = (rng x.o, 0) := by
  unfold lst
  rw [F_free (bO8 x)]
  have h1 := H.o1
  have h2 := H.o2
  have := al_rng (o := x.o) (nx := nxt x (F x (x.o - 1)) 1) (fun k hk => by
    unfold nxt
    rw [show ((k : Int) + 1).toNat - 1 = k by omega, pO_link, F_link]
    by_cases hk2 : k + 1 < x.o
    · rw [if_pos (by omega), if_pos hk2]; omega
    · rw [if_neg (by omega), if_neg hk2]; rfl) x.o 0 (by omega)
  rw [if_pos (by omega)] at this
  simpa [rng] using this
theorem fresh_low {x : Sh} (H : x.Ok) {i : Nat} (hi : ¬ i = 1) (h8 : i < bO x + 1) : F x (x.o - 1) i = 0 := F_zero hi (fun j _ h => by have := bO8 x; omega)
theorem fresh_obj {x : Sh} (H : x.Ok) {j q : Nat} (hq : ¬ q = 1) (hq2 : q < ow x) : F x (x.o - 1) (pO x j + q) = 0 := by
  refine F_zero (by have := bO8 x; unfold pO; omega) (fun i _ h => ?_)
  unfold pO at h
  have h3 := ow3 x
  rcases Nat.lt_trichotomy i j with l | l | l
  · have := at_lt (x := x) l
    have h5 : (i + 1) * ow x ≤ j * ow x := Nat.mul_le_mul_right _ l
    rw [Nat.succ_mul] at h5
    omega
  · subst l; omega
  · have h5 : (j + 1) * ow x ≤ i * ow x := Nat.mul_le_mul_right _ l
    rw [Nat.succ_mul] at h5
    omega
theorem stop0 (o : Nat) (nx : Int → Int) (k : Nat) : al o nx k [] 0 = ([], 0) := al_stop o nx k (by omega)
theorem fresh_sound {x : Sh} (H : x.Ok) : Sound x (F x (x.o - 1)) := by
  have b8 := bO8 x
  have L := lay_out x
  have f0 : F x (x.o - 1) 0 = 0 := fresh_low H (by omega) (by omega)
  have f2 : F x (x.o - 1) 2 = 0 := fresh_low H (by omega) (by omega)
  have f3 : F x (x.o - 1) 3 = 0 := fresh_low H (by omega) (by omega)
  have g2 : lst x (F x (x.o - 1)) 2 1 = ([], 0) := by unfold lst; rw [f2]; exact stop0 _ _ _
  have g3 : lst x (F x (x.o - 1)) 3 2 = ([], 0) := by unfold lst; rw [f3]; exact stop0 _ _ _
  have g1 := fresh_free H
  have hz : ∀ u, u = 0 → hOk (cv x (F x (x.o - 1))) u := fun u hu h => absurd hu h
  have h0 : ∀ j, F x (x.o - 1) (pO x j) = 0 := fun j => by have := fresh_obj H (j := j) (q := 0) (by omega) (by have := ow3 x; omega); simpa using this
  have hsl : ∀ j q, q < x.s → F x (x.o - 1) (pO x j + (3 + q)) = 0 := fun j q hq => fresh_obj H (by omega) (by omega)
  refine ⟨?_, ⟨?_, ?_, ?_⟩, ?_, ?_, ?_, ?_⟩
  · simp [cv, f0]
  · rw [g1]
  · rw [g2]
  · rw [g3]
  · simp [cv, g2]
  · intro j hj
    simp only [cv] at hj
    refine ⟨fun hu => ?_, fun _ => ⟨.inl ?_, fun q hq => ?_⟩⟩
    · simp [cv, obAt, bitB, h0] at hu
    · simp only [cv, g1]; exact rng_mem.2 ⟨by omega, by omega⟩
    · exact hsl j q hq
  · intro i hi
    simp [cv, g3] at hi
  · refine ⟨fun i hi => hz _ ?_, fun j hj i hi => hz _ ?_, fun j hj hu => ?_⟩
    · simp only [cv] at hi ⊢
      exact fresh_low H (by omega) (by omega)
    · simp only [cv] at hi hj ⊢
      have := (at_root H hj).1
      exact fresh_low H (by omega) (by omega)
    · simp [cv, obAt, bitB, h0] at hu
end Vw
end Go.Proofs.Ytmikhglnomgbfab
/-
  View: Check of the package
-/
namespace Go.Proofs.Ytmikhglnomgbfab
open Go.RowKit
set_option linter.unusedVariables false
set_option linter.unusedSimpArgs false
set_option linter.unnecessarySimpa false
set_option maxRecDepth 20000
namespace Vw
open Shape
set_option maxHeartbeats 2000000 in
theorem check_yes {o s h r k b off z cap : Nat} {s5 : Int} {B : Nat} {f : Nat → Int} (H : (⟨o, s, h, r, k⟩ : Sh).Ok) (hz : size ⟨o, s, h, r, k⟩ = z) (hc : z ≤ cap) {w : World} (hS : Sees w B (some ⟨b, off, none⟩) z f) (hB : B ≤ w.heap.size) (hf : ∀ i, i < z → 0 ≤ f i ∧ f i < 18446744073709551616) (hs : Sound ⟨o, s, h, r, k⟩ f) :
    Calls Try.prog 18 #[.agg #[.int .i64 (o : Int), .int .i64 (s : Int), .int .i64 (h : Int), .int .i64 (r : Int), .int .i64 (k : Int), .int .i64 s5], .slice (some ⟨b, off, none⟩) z cap] w fun e w' => e = .returned (.int .i64 0) ∧ Below w.heap.size w w' := by
  obtain ⟨W0, hW0, B0, K⟩ := box w (o : Int) (s : Int) (h : Int) (r : Int) (k : Int) s5
  have HB := hide B0
  have MO := hide (fun w1 => memoryOf_ok (s5 := s5) H (some ⟨b, off, none⟩) z cap hz w1)
  have IS := hide (fun (V : World) (hb : Below w.heap.size w V) => call_yes (isSound_ok (b := b) (off := off) (s5 := s5) H hz hc (w := V) (hS.below hb hB) (by have := hb.size; omega) hf) hs)
  clear H hz hS hB hf hs
  obtain ⟨-, l0, x0, x1, x2, x3, x4, x5⟩ := K.out W0 (Below.refl _ _)
  clear B0
  go_enter Try.func18, Try.ntmps18
  go_upto_region 2 with (go_at_call 55; refine (MO.out _).mono ?_; rintro e w2 ⟨rfl, hb2⟩; have HB2 := hide hb2; clear hb2)
  obtain ⟨W3, hW3⟩ : ∃ W3, w2.alloc (.cells #[.int .i64 (o : Int), .int .i64 (s : Int), .int .i64 (h : Int), .int .i64 (r : Int), .int .i64 (k : Int), .int .i64 s5, .slice (some ⟨b, off, none⟩) z cap] 107) = W3 := ⟨_, rfl⟩
  have HB3 := hide (show Below w.heap.size w W3 by rw [← hW3]; exact (HB.out.trans (HB2.out.mono HB.out.size)).trans ((Below.refl _ w2).alloc (by have := HB.out.size; have := HB2.out.size; omega) _))
  have R3 : W3.rowIs w2.heap.size 107 7 (lrow [.int .i64 (o : Int), .int .i64 (s : Int), .int .i64 (h : Int), .int .i64 (r : Int), .int .i64 (k : Int), .int .i64 s5, .slice (some ⟨b, off, none⟩) z cap]) := by rw [← hW3]; exact rowL_alloc w2 [.int .i64 (o : Int), .int .i64 (s : Int), .int .i64 (h : Int), .int .i64 (r : Int), .int .i64 (k : Int), .int .i64 s5, .slice (some ⟨b, off, none⟩) z cap] _ rfl
  have d0 := R3.cell (i := 0) (by decide)
  have d1 := R3.cell (i := 1) (by decide)
  have d2 := R3.cell (i := 2) (by decide)
  have d3 := R3.cell (i := 3) (by decide)
  have d4 := R3.cell (i := 4) (by decide)
  have d5 := R3.cell (i := 5) (by decide)
  have d6 := R3.cell (i := 6) (by decide)
  simp only [lrow] at d0 d1 d2 d3 d4 d5 d6
  simp only [hW3]
  clear hW3 R3
  go_wp2_with (go_at_call 56; refine (IS.out _ HB3.out).mono ?_; rintro e w4 ⟨rfl, hb4⟩; have HB4 := hide hb4; clear hb4)
  go_ret
  exact ⟨rfl, HB3.out.trans (HB4.out.mono HB3.out.size)⟩
end Vw
end Go.Proofs.Ytmikhglnomgbfab
/-
  View: the example: a fresh memory is seen, and is sound
-/
namespace Go.Proofs.Ytmikhglnomgbfab
open Go.RowKit
set_option linter.unusedVariables false
set_option linter.unusedSimpArgs false
set_option linter.unnecessarySimpa false
set_option maxRecDepth 20000
namespace Vw
open Shape
theorem ok2 : (⟨2, 1, 1, 1, 0⟩ : Sh).Ok := ⟨by decide, by decide, by decide, by decide, by decide, by decide, by decide, by decide⟩
theorem sz2 : size ⟨2, 1, 1, 1, 0⟩ = 18 := rfl
theorem fresh2 (w : World) : Calls Try.prog 17 #[.agg #[.int .i64 2, .int .i64 1, .int .i64 1, .int .i64 1, .int .i64 0, .int .i64 0]] w fun e w' => (∃ g, e = .returned (.tuple #[.slice (some ⟨g, 0, none⟩) 18 18, .int .i64 0]) ∧ IsRow w' g 18 18 (F ⟨2, 1, 1, 1, 0⟩ 1)) ∧ Below w.heap.size w w' := by
  have := fresh_ok (s5 := 0) ok2 w
  refine Calls.mono (R := _) (by simpa [sz2] using this) ?_
  intro e w' h
  obtain ⟨g, h1, h2, h3, h4⟩ := h
  exact ⟨⟨g, h1, h2⟩, h4⟩
theorem row_bnd {w : World} {g n cap : Nat} {f : Nat → Int} (h : IsRow w g n cap f) : ∀ i, i < n → 0 ≤ f i ∧ f i < 18446744073709551616 := fun i hi => by have := h.word hi; omega
theorem look2 {w : World} {g : Nat} (h : IsRow w g 18 18 (F ⟨2, 1, 1, 1, 0⟩ 1)) : Calls Try.prog 52 #[.agg #[.int .i64 2, .int .i64 1, .int .i64 1, .int .i64 1, .int .i64 0, .int .i64 0], .slice (some ⟨g, 0, none⟩) 18 18] w fun e w' => (∃ (c : Cv) (a : Av) (b0 o0 b1 o1 c1 : Nat) (a1 : Option Addr), e = .returned (.tuple #[.agg #[.int .i64 c.ph, .int .i64 c.co, .int .u64 c.ro, .slice a.aa c.na a.ca, .slice a.ra c.nr a.cr, .slice a.wa c.nw a.cw, .slice (some ⟨b1, o1, none⟩) 2 a.cb, .slice (some ⟨b0, o0, none⟩) 2 a.cf, .slice a.ga c.gr.length a.cg, .slice a.qa c.qu.length a.cq, .int .u64 (c.cn 0), .int .u64 (c.cn 1), .int .u64 (c.cn 2), .int .u64 (c.cn 3)], .int .i64 0]) ∧ b0 < w'.heap.size ∧ b1 < w'.heap.size ∧ w'.cell? ⟨b0, o0, none⟩ = some (.int .i64 1) ∧ w'.cell? ⟨b0, o0 + 1, none⟩ = some (.int .i64 2) ∧ w'.cell? ⟨b1, o1 + 9 + 8, none⟩ = some (.slice a1 1 c1)) ∧ Below w.heap.size w w' := by
  have := Look_ok (s5 := 0) ok2 sz2 (Nat.le_refl 18) w h.sees (Nat.le_refl _) (row_bnd h)
  refine Calls.mono this ?_
  rintro e w' ⟨⟨a, rfl, HO⟩, hb⟩
  have hfr : (cv ⟨2, 1, 1, 1, 0⟩ (F ⟨2, 1, 1, 1, 0⟩ 1)).fr = [1, 2] := congrArg Prod.fst (fresh_free ok2)
  have hS := HO.out.shows
  obtain ⟨b0, o0, e0, l0, c0⟩ := hS.fr 0 1 (by rw [hfr]; rfl)
  obtain ⟨b0', o0', e0', l0', c0'⟩ := hS.fr 1 2 (by rw [hfr]; rfl)
  rw [e0] at e0'
  cases e0'
  obtain ⟨b1, o1, a1, c1, e1, l1, hc1, _⟩ := hS.ob 1 (by decide)
  refine ⟨⟨cv ⟨2, 1, 1, 1, 0⟩ (F ⟨2, 1, 1, 1, 0⟩ 1), a, b0, o0, b1, o1, c1, a1, ?_, l0, l1, by simpa using c0, c0', hc1 8 (by decide)⟩, hb⟩
  unfold vl
  rw [e0, e1, hfr]
  rfl
theorem check2 {w : World} {g : Nat} (h : IsRow w g 18 18 (F ⟨2, 1, 1, 1, 0⟩ 1)) : Calls Try.prog 18 #[.agg #[.int .i64 2, .int .i64 1, .int .i64 1, .int .i64 1, .int .i64 0, .int .i64 0], .slice (some ⟨g, 0, none⟩) 18 18] w fun e w' => e = .returned (.int .i64 0) ∧ Below w.heap.size w w' :=
  check_yes (s5 := 0) ok2 sz2 (Nat.le_refl 18) h.sees (Nat.le_refl _) (row_bnd h) (fresh_sound ok2)
set_option maxHeartbeats 4000000 in
theorem awake_ok (w : World) : Calls Try.prog 16 #[] w fun e w' => e = .returned (.bool true) ∧ Below w.heap.size w w' := by
  go_enter Try.func16, Try.ntmps16
  go_upto_region 2 with (fail)
  obtain ⟨W0, hW0, B0, K⟩ := box w 2 1 1 1 0 0
  have HB := hide B0
  obtain ⟨-, l0, x0, x1, x2, x3, x4, x5⟩ := K.out W0 (Below.refl _ _)
  simp only [hW0]
  clear B0 hW0
  go_upto_region 3 with (go_at_call 17; refine (fresh2 _).mono ?_; rintro e w1 ⟨⟨g, rfl, R1⟩, hb1⟩; have HB1 := hide hb1; have HR1 := hide R1; clear hb1 R1)
  obtain ⟨hbw, l1, y0, y1, y2, y3, y4, y5⟩ := K.out w1 HB1.out
  clear hbw x0 x1 x2 x3 x4 x5
  have LK := hide (look2 HR1.out)
  go_upto_region 4 with (go_at_call 52; refine LK.out.mono ?_; rintro e w2 ⟨⟨c, a, b0, o0, b1, o1, c1, a1, rfl, hb0, hb1', hc0, hc0', hc1⟩, hb2⟩; have HB2 := hide hb2; clear hb2)
  obtain ⟨W3, hW3⟩ : ∃ W3, w2.alloc (.cells #[.int .i64 c.ph, .int .i64 c.co, .int .u64 c.ro, .slice a.aa c.na a.ca, .slice a.ra c.nr a.cr, .slice a.wa c.nw a.cw, .slice (some ⟨b1, o1, none⟩) 2 a.cb, .slice (some ⟨b0, o0, none⟩) 2 a.cf, .slice a.ga c.gr.length a.cg, .slice a.qa c.qu.length a.cq, .int .u64 (c.cn 0), .int .u64 (c.cn 1), .int .u64 (c.cn 2), .int .u64 (c.cn 3)] 34) = W3 := ⟨_, rfl⟩
  have B3 : Below w2.heap.size w2 W3 := by rw [← hW3]; exact (Below.refl _ w2).alloc (Nat.le_refl _) _
  have R3 : W3.rowIs w2.heap.size 34 14 (lrow [.int .i64 c.ph, .int .i64 c.co, .int .u64 c.ro, .slice a.aa c.na a.ca, .slice a.ra c.nr a.cr, .slice a.wa c.nw a.cw, .slice (some ⟨b1, o1, none⟩) 2 a.cb, .slice (some ⟨b0, o0, none⟩) 2 a.cf, .slice a.ga c.gr.length a.cg, .slice a.qa c.qu.length a.cq, .int .u64 (c.cn 0), .int .u64 (c.cn 1), .int .u64 (c.cn 2), .int .u64 (c.cn 3)]) := by rw [← hW3]; exact rowL_alloc w2 [.int .i64 c.ph, .int .i64 c.co, .int .u64 c.ro, .slice a.aa c.na a.ca, .slice a.ra c.nr a.cr, .slice a.wa c.nw a.cw, .slice (some ⟨b1, o1, none⟩) 2 a.cb, .slice (some ⟨b0, o0, none⟩) 2 a.cf, .slice a.ga c.gr.length a.cg, .slice a.qa c.qu.length a.cq, .int .u64 (c.cn 0), .int .u64 (c.cn 1), .int .u64 (c.cn 2), .int .u64 (c.cn 3)] _ rfl
  have HB3 := hide (HB2.out.trans (B3.mono HB2.out.size))
  have HB13 := hide (HB1.out.trans (HB3.out.mono HB1.out.size))
  have z6 : W3.cell? ⟨w2.heap.size, 6, none⟩ = some (.slice (some ⟨b1, o1, none⟩) 2 a.cb) := R3.cell (i := 6) (by decide)
  have z7 : W3.cell? ⟨w2.heap.size, 7, none⟩ = some (.slice (some ⟨b0, o0, none⟩) 2 a.cf) := R3.cell (i := 7) (by decide)
  have k0 : W3.cell? ⟨b0, o0, none⟩ = some (.int .i64 1) := (B3.cell (p := ⟨b0, o0, none⟩) hb0).trans hc0
  have k1 : W3.cell? ⟨b0, o0 + 1, none⟩ = some (.int .i64 2) := (B3.cell (p := ⟨b0, o0 + 1, none⟩) hb0).trans hc0'
  have k2 : W3.cell? ⟨b1, o1 + 9 + 8, none⟩ = some (.slice a1 1 c1) := (B3.cell (p := ⟨b1, o1 + 9 + 8, none⟩) hb1').trans hc1
  have R13 := hide (HR1.out.below HB3.out)
  have CK := hide (check2 R13.out)
  simp only [hW3]
  clear hW3 B3 R3 y0 y1 y2 y3 y4 y5 hc0 hc0' hc1
  obtain ⟨-, -, y0, y1, y2, y3, y4, y5⟩ := K.out W3 HB13.out
  go_wp2_with (go_at_call 18; refine CK.out.mono ?_; rintro e w5 ⟨rfl, hb5⟩; have HB5 := hide hb5; clear hb5)
  go_ret
  exact ⟨rfl, (K.out _ (HB13.out.trans (HB5.out.mono HB13.out.size))).1⟩
end Vw
end Go.Proofs.Ytmikhglnomgbfab
