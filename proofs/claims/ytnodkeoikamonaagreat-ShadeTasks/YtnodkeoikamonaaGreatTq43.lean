/-
  Lemmas: ShadeTW.
-/
import Derived.Test.YtnodkeoikamonaaGreatTq42
import Derived.Test.YtnodkeoikamonaaGreatTq35
/-
  ShadeTasks: the law's own walk.
-/
namespace Go.Proofs.YtnodkeoikamonaaGreat
open Go.RowKit
set_option linter.unusedVariables false
set_option linter.unusedSimpArgs false
set_option linter.unnecessarySimpa false
set_option maxRecDepth 20000
namespace Shd
variable {w : World} {ao aoh aos : Option Addr} {cap caph caps : Nat} {P : Par} {f : Nat → Int} {most : Int} {sh : Shp}
set_option maxHeartbeats 8000000 in
theorem tasks_shape (h5 : ¬ Shape.R5 sh.a sh.b sh.c sh.d sh.e) :
    Calls Tryz.prog 4 #[.agg #[.int .i64 sh.a, .int .i64 sh.b, .int .i64 sh.c, .int .i64 sh.d, .int .i64 sh.e, .int .i64 sh.f, .slice ao P.n cap, .slice aoh P.nh caph, .slice aos P.ns caps, .int .i64 most]] w fun e w' => e = .returned (.bool true) ∧ Below w.heap.size w w' := by
  have SZ := hide (fun w1 : World => size_bad h5 w1)
  clear h5
  obtain ⟨s0, s1, s2, s3, s4, s5⟩ := sh
  simp only [Shp.val] at SZ ⊢
  obtain ⟨W0, hW0⟩ : ∃ W0, w.alloc (.cells #[.int .i64 s0, .int .i64 s1, .int .i64 s2, .int .i64 s3, .int .i64 s4, .int .i64 s5, .slice ao P.n cap, .slice aoh P.nh caph, .slice aos P.ns caps, .int .i64 most] 28) = W0 := ⟨_, rfl⟩
  have b0 : Below w.heap.size w W0 := by rw [← hW0]; exact (Below.refl _ w).alloc (Nat.le_refl _) _
  have R0 : W0.rowIs w.heap.size 28 10 (lrow [.int .i64 s0, .int .i64 s1, .int .i64 s2, .int .i64 s3, .int .i64 s4, .int .i64 s5, .slice ao P.n cap, .slice aoh P.nh caph, .slice aos P.ns caps, .int .i64 most]) := by rw [← hW0]; exact rowL_alloc w [.int .i64 s0, .int .i64 s1, .int .i64 s2, .int .i64 s3, .int .i64 s4, .int .i64 s5, .slice ao P.n cap, .slice aoh P.nh caph, .slice aos P.ns caps, .int .i64 most] _ rfl
  have keep : Hid (∀ w' : World, Below W0.heap.size W0 w' → Below w.heap.size w w' ∧ w.heap.size < w'.heap.size ∧ w'.cell? ⟨w.heap.size, 0, none⟩ = some (.int .i64 s0) ∧ w'.cell? ⟨w.heap.size, 1, none⟩ = some (.int .i64 s1) ∧ w'.cell? ⟨w.heap.size, 2, none⟩ = some (.int .i64 s2) ∧ w'.cell? ⟨w.heap.size, 3, none⟩ = some (.int .i64 s3) ∧ w'.cell? ⟨w.heap.size, 4, none⟩ = some (.int .i64 s4) ∧ w'.cell? ⟨w.heap.size, 5, none⟩ = some (.int .i64 s5) ∧
      w'.cell? ⟨w.heap.size, 6, none⟩ = some (.slice ao P.n cap) ∧ w'.cell? ⟨w.heap.size, 7, none⟩ = some (.slice aoh P.nh caph) ∧ w'.cell? ⟨w.heap.size, 8, none⟩ = some (.slice aos P.ns caps) ∧ w'.cell? ⟨w.heap.size, 9, none⟩ = some (.int .i64 most)) := fun w' hb => by
    have r := R0.of_block (hb.block w.heap.size R0.lt)
    exact ⟨b0.trans (hb.mono b0.size), r.lt, r.cell (i := 0) (by decide), r.cell (i := 1) (by decide), r.cell (i := 2) (by decide), r.cell (i := 3) (by decide), r.cell (i := 4) (by decide), r.cell (i := 5) (by decide), r.cell (i := 6) (by decide), r.cell (i := 7) (by decide), r.cell (i := 8) (by decide), r.cell (i := 9) (by decide)⟩
  have sz0 : W0.heap.size = w.heap.size + 1 := by rw [← hW0]; simp
  clear b0 R0
  go_enter Tryz.func4, Tryz.ntmps4
  go_wp2_with fail
  refine (awake_any W0).mono ?_
  rintro e w1 ⟨rfl, hb1⟩
  obtain ⟨bw1, l1, c0, c1, c2, c3, c4, c5, c6, c7, c8, c9⟩ := keep.out w1 hb1
  have BW1 := hide bw1
  clear hb1 bw1 hW0
  go_wp2_with fail
  refine (SZ.out w1).mono ?_
  rintro e w2 ⟨rfl, hg2⟩
  have B2 := hide (BW1.out.trans ((below_of_grown_none hg2 w1.heap.size (Nat.le_refl _)).mono BW1.out.size))
  clear hg2
  go_wp2_with fail
  go_ret
  exact ⟨rfl, B2.out⟩
set_option maxHeartbeats 8000000 in
theorem tasks_size (h5 : Shape.R5 sh.a sh.b sh.c sh.d sh.e) (hsz : ¬ (P.n : Int) = sizeOf sh) :
    Calls Tryz.prog 4 #[.agg #[.int .i64 sh.a, .int .i64 sh.b, .int .i64 sh.c, .int .i64 sh.d, .int .i64 sh.e, .int .i64 sh.f, .slice ao P.n cap, .slice aoh P.nh caph, .slice aos P.ns caps, .int .i64 most]] w fun e w' => e = .returned (.bool true) ∧ Below w.heap.size w w' := by
  have SZ := hide (fun w1 : World => size_ok h5 w1)
  obtain ⟨z, hz⟩ : ∃ z, sizeOf sh = z := ⟨_, rfl⟩
  rw [hz] at SZ hsz
  clear h5 hz
  have hsz' : ((P.n : Int) != z) = true := by simpa using hsz
  obtain ⟨s0, s1, s2, s3, s4, s5⟩ := sh
  simp only [Shp.val] at SZ ⊢
  obtain ⟨W0, hW0⟩ : ∃ W0, w.alloc (.cells #[.int .i64 s0, .int .i64 s1, .int .i64 s2, .int .i64 s3, .int .i64 s4, .int .i64 s5, .slice ao P.n cap, .slice aoh P.nh caph, .slice aos P.ns caps, .int .i64 most] 28) = W0 := ⟨_, rfl⟩
  have b0 : Below w.heap.size w W0 := by rw [← hW0]; exact (Below.refl _ w).alloc (Nat.le_refl _) _
  have R0 : W0.rowIs w.heap.size 28 10 (lrow [.int .i64 s0, .int .i64 s1, .int .i64 s2, .int .i64 s3, .int .i64 s4, .int .i64 s5, .slice ao P.n cap, .slice aoh P.nh caph, .slice aos P.ns caps, .int .i64 most]) := by rw [← hW0]; exact rowL_alloc w [.int .i64 s0, .int .i64 s1, .int .i64 s2, .int .i64 s3, .int .i64 s4, .int .i64 s5, .slice ao P.n cap, .slice aoh P.nh caph, .slice aos P.ns caps, .int .i64 most] _ rfl
  have keep : Hid (∀ w' : World, Below W0.heap.size W0 w' → Below w.heap.size w w' ∧ w.heap.size < w'.heap.size ∧ w'.cell? ⟨w.heap.size, 0, none⟩ = some (.int .i64 s0) ∧ w'.cell? ⟨w.heap.size, 1, none⟩ = some (.int .i64 s1) ∧ w'.cell? ⟨w.heap.size, 2, none⟩ = some (.int .i64 s2) ∧ w'.cell? ⟨w.heap.size, 3, none⟩ = some (.int .i64 s3) ∧ w'.cell? ⟨w.heap.size, 4, none⟩ = some (.int .i64 s4) ∧ w'.cell? ⟨w.heap.size, 5, none⟩ = some (.int .i64 s5) ∧
      w'.cell? ⟨w.heap.size, 6, none⟩ = some (.slice ao P.n cap) ∧ w'.cell? ⟨w.heap.size, 7, none⟩ = some (.slice aoh P.nh caph) ∧ w'.cell? ⟨w.heap.size, 8, none⟩ = some (.slice aos P.ns caps) ∧ w'.cell? ⟨w.heap.size, 9, none⟩ = some (.int .i64 most)) := fun w' hb => by
    have r := R0.of_block (hb.block w.heap.size R0.lt)
    exact ⟨b0.trans (hb.mono b0.size), r.lt, r.cell (i := 0) (by decide), r.cell (i := 1) (by decide), r.cell (i := 2) (by decide), r.cell (i := 3) (by decide), r.cell (i := 4) (by decide), r.cell (i := 5) (by decide), r.cell (i := 6) (by decide), r.cell (i := 7) (by decide), r.cell (i := 8) (by decide), r.cell (i := 9) (by decide)⟩
  have sz0 : W0.heap.size = w.heap.size + 1 := by rw [← hW0]; simp
  clear b0 R0
  go_enter Tryz.func4, Tryz.ntmps4
  go_wp2_with fail
  refine (awake_any W0).mono ?_
  rintro e w1 ⟨rfl, hb1⟩
  obtain ⟨bw1, l1, c0, c1, c2, c3, c4, c5, c6, c7, c8, c9⟩ := keep.out w1 hb1
  have BW1 := hide bw1
  clear hb1 bw1 hW0
  go_wp2_with fail
  refine (SZ.out w1).mono ?_
  rintro e w2 ⟨rfl, hg2⟩
  have B2 := hide (BW1.out.trans ((below_of_grown_none hg2 w1.heap.size (Nat.le_refl _)).mono BW1.out.size))
  have hb2 := below_of_grown_none hg2 w1.heap.size (Nat.le_refl _)
  have e6 := (hb2.cell (p := ⟨w.heap.size, 6, none⟩) l1).trans c6
  have l2 : w.heap.size < w2.heap.size := by have := hb2.size; omega
  clear hb2
  clear hg2
  go_wp2_with fail
  go_ret
  exact ⟨rfl, B2.out⟩
set_option maxHeartbeats 8000000 in
theorem tasks_run (h5 : Shape.R5 sh.a sh.b sh.c sh.d sh.e) (hsz : (P.n : Int) = sizeOf sh) (hn4 : P.n ≤ 4096) (S : Sees w w.heap.size ao P.n f) (hnil : ao = none → P.n = 0 ∧ cap = 0) (hf : ∀ i, i < P.n → 0 ≤ f i ∧ f i ≤ 18446744073709551615) (SH : SeesH w w.heap.size aoh P.nh P.jn P.jb) (hn63 : P.nh ≤ 9223372036854775807) (SI : SeesI w w.heap.size aos P.ns P.sched) (hjw : ∀ h, h < P.nh → ∀ j, j < P.jn h → (P.jb h j).wf) :
    Calls Tryz.prog 4 #[.agg #[.int .i64 sh.a, .int .i64 sh.b, .int .i64 sh.c, .int .i64 sh.d, .int .i64 sh.e, .int .i64 sh.f, .slice ao P.n cap, .slice aoh P.nh caph, .slice aos P.ns caps, .int .i64 most]] w fun e w' => e = .returned (.bool true) ∧ Below w.heap.size w w' := by
  obtain ⟨V, v1, v2, v3, v4, v5, v6⟩ := tviews h5 P f most hn4 hn63 hf hjw
  have SZ := hide (fun w1 : World => size_ok h5 w1)
  rw [← hsz] at SZ
  have ups : Hid (∀ w1, Below w.heap.size w w1 → Sees w1 w1.heap.size ao P.n f ∧ SeesH w1 w1.heap.size aoh P.nh P.jn P.jb ∧ SeesI w1 w1.heap.size aos P.ns P.sched) := fun w1 B1 =>
    ⟨(S.below B1 (Nat.le_refl _)).mono B1.size, (SH.below B1 (Nat.le_refl _)).up B1.size, (SI.below B1 (Nat.le_refl _)).up B1.size⟩
  have HRP := hide (fun (w1 : World) (B1 : Below w.heap.size w w1) => v5 w1 ao cap aoh caph aos caps (ups.out w1 B1).1 hnil (ups.out w1 B1).2.1 (ups.out w1 B1).2.2)
  have HPP := hide (fun (w1 : World) (B1 : Below w.heap.size w w1) (b : Nat) (hb : b < w1.heap.size) (HI : InBox w1 b sh) => v6 w1 ao cap aoh caph aos caps b hb HI (ups.out w1 B1).1 (ups.out w1 B1).2.1 (ups.out w1 B1).2.2)
  simp only [mkS] at HPP
  obtain ⟨k, s, n, f', en, m, dn, an, er⟩ := V
  simp only at v1 v2 v3 v4
  have V4 := hide v4
  obtain ⟨s0, s1, s2, s3, s4, s5⟩ := sh
  simp only [Shp.val] at HRP SZ ⊢
  clear S SH SI hjw hnil hf v4 v5 v6 ups h5 hsz hn4
  obtain ⟨W0, hW0⟩ : ∃ W0, w.alloc (.cells #[.int .i64 s0, .int .i64 s1, .int .i64 s2, .int .i64 s3, .int .i64 s4, .int .i64 s5, .slice ao P.n cap, .slice aoh P.nh caph, .slice aos P.ns caps, .int .i64 most] 28) = W0 := ⟨_, rfl⟩
  have b0 : Below w.heap.size w W0 := by rw [← hW0]; exact (Below.refl _ w).alloc (Nat.le_refl _) _
  have R0 : W0.rowIs w.heap.size 28 10 (lrow [.int .i64 s0, .int .i64 s1, .int .i64 s2, .int .i64 s3, .int .i64 s4, .int .i64 s5, .slice ao P.n cap, .slice aoh P.nh caph, .slice aos P.ns caps, .int .i64 most]) := by rw [← hW0]; exact rowL_alloc w [.int .i64 s0, .int .i64 s1, .int .i64 s2, .int .i64 s3, .int .i64 s4, .int .i64 s5, .slice ao P.n cap, .slice aoh P.nh caph, .slice aos P.ns caps, .int .i64 most] _ rfl
  have keep : Hid (∀ w' : World, Below W0.heap.size W0 w' → Below w.heap.size w w' ∧ w.heap.size < w'.heap.size ∧ w'.cell? ⟨w.heap.size, 0, none⟩ = some (.int .i64 s0) ∧ w'.cell? ⟨w.heap.size, 1, none⟩ = some (.int .i64 s1) ∧ w'.cell? ⟨w.heap.size, 2, none⟩ = some (.int .i64 s2) ∧ w'.cell? ⟨w.heap.size, 3, none⟩ = some (.int .i64 s3) ∧ w'.cell? ⟨w.heap.size, 4, none⟩ = some (.int .i64 s4) ∧ w'.cell? ⟨w.heap.size, 5, none⟩ = some (.int .i64 s5) ∧
      w'.cell? ⟨w.heap.size, 6, none⟩ = some (.slice ao P.n cap) ∧ w'.cell? ⟨w.heap.size, 7, none⟩ = some (.slice aoh P.nh caph) ∧ w'.cell? ⟨w.heap.size, 8, none⟩ = some (.slice aos P.ns caps) ∧ w'.cell? ⟨w.heap.size, 9, none⟩ = some (.int .i64 most)) := fun w' hb => by
    have r := R0.of_block (hb.block w.heap.size R0.lt)
    exact ⟨b0.trans (hb.mono b0.size), r.lt, r.cell (i := 0) (by decide), r.cell (i := 1) (by decide), r.cell (i := 2) (by decide), r.cell (i := 3) (by decide), r.cell (i := 4) (by decide), r.cell (i := 5) (by decide), r.cell (i := 6) (by decide), r.cell (i := 7) (by decide), r.cell (i := 8) (by decide), r.cell (i := 9) (by decide)⟩
  have sz0 : W0.heap.size = w.heap.size + 1 := by rw [← hW0]; simp
  clear b0 R0
  go_enter Tryz.func4, Tryz.ntmps4
  go_wp2_with fail
  refine (awake_any W0).mono ?_
  rintro e w0 ⟨rfl, hb0⟩
  obtain ⟨bw0, l0, c0, c1, c2, c3, c4, c5, c6, c7, c8, c9⟩ := keep.out w0 hb0
  have HB0 := hide hb0
  have hs0 := hb0.size
  clear hb0 bw0 hW0
  go_wp2_with fail
  refine (SZ.out w0).mono ?_
  rintro e w1 ⟨rfl, hg1⟩
  have hb1 := HB0.out.trans ((below_of_grown_none hg1 w0.heap.size (Nat.le_refl _)).mono hs0)
  clear hg1 c0 c1 c2 c3 c4 c5 c6 c7 c8 c9 HB0
  obtain ⟨bw1, l1, c0, c1, c2, c3, c4, c5, c6, c7, c8, c9⟩ := keep.out w1 hb1
  have HB1 := hide hb1
  have BW1 := hide bw1
  have hs1 := hb1.size
  clear hb1 bw1
  go_wp2_with fail
  refine (HRP.out w1 BW1.out).mono ?_
  rintro e w2 ⟨hb2, hno, v, rfl, sa, sc, wa, wc, aa, ac, rfl, S2, W2, A2⟩
  first | simp only at hno | skip
  have HNO := hide hno
  clear hno
  have hs2 := hb2.size
  have B2 := hide (HB1.out.trans (hb2.mono hs1))
  have HS2 := hide S2
  have HW2 := hide W2
  have HA2 := hide A2
  clear hb2 S2 W2 A2 c0 c1 c2 c3 c4 c5 c6 c7 c8 c9
  simp only
  obtain ⟨W3, hW3⟩ : ∃ W3, w2.alloc (.cells #[.slice sa k sc, .slice wa n wc, .bool en] 32) = W3 := ⟨_, rfl⟩
  have B23 : Below w2.heap.size w2 W3 := by rw [← hW3]; exact (Below.refl _ w2).alloc (Nat.le_refl _) _
  have B03 := B2.out.trans (B23.mono (Nat.le_trans hs1 hs2))
  obtain ⟨bw3, l3, c0, c1, c2, c3, c4, c5, c6, c7, c8, c9⟩ := keep.out W3 B03
  have BW3 := hide bw3
  have R3 := hide (show W3.rowIs w2.heap.size 32 3 (lrow [.slice sa k sc, .slice wa n wc, .bool en]) from by rw [← hW3]; exact rowL_alloc w2 [.slice sa k sc, .slice wa n wc, .bool en] _ rfl)
  have HB23 := hide B23
  have hs3 : W3.heap.size = w2.heap.size + 1 := by rw [← hW3]; simp
  clear B23 B03 bw3
  have IB : InBox W3 w.heap.size ⟨s0, s1, s2, s3, s4, s5⟩ := ⟨c0, c1, c2, c3, c4, c5⟩
  have HIB := hide IB
  clear IB
  go_wp2_with fail
  refine (HPP.out W3 BW3.out w.heap.size l3 HIB.out).mono ?_
  rintro e w4 ⟨hb4, v, rfl, sa', sc', wa', wc', aa', ac', rfl, S4, W4, A4⟩
  have hs4 := hb4.size
  have HB4 := hide hb4
  have HS4 := hide S4
  have HW4 := hide W4
  have HA4 := hide A4
  clear hb4 S4 W4 A4 hW3 c0 c1 c2 c3 c4 c5 c6 c7 c8 c9
  simp only
  obtain ⟨W5, hW5⟩ : ∃ W5, w4.alloc (.cells #[.slice sa' k sc', .slice wa' n wc', .bool en] 32) = W5 := ⟨_, rfl⟩
  have B45 : Below w4.heap.size w4 W5 := by rw [← hW5]; exact (Below.refl _ w4).alloc (Nat.le_refl _) _
  have R5 := hide (show W5.rowIs w4.heap.size 32 3 (lrow [.slice sa' k sc', .slice wa' n wc', .bool en]) from by rw [← hW5]; exact rowL_alloc w4 [.slice sa' k sc', .slice wa' n wc', .bool en] _ rfl)
  have hs5 : W5.heap.size = w4.heap.size + 1 := by rw [← hW5]; simp
  have R35 := hide (R3.out.of_block ((HB4.out.trans (B45.mono (by omega))).block _ (by omega)))
  have B25 := hide (HB23.out.trans ((HB4.out.trans (B45.mono (by omega))).mono (by omega)))
  have B5 := hide (BW3.out.trans ((HB4.out.trans (B45.mono (by omega))).mono BW3.out.size))
  have HB45 := hide B45
  have c0 : W5.cell? ⟨w2.heap.size, 0, none⟩ = some (.slice sa k sc) := R35.out.cell (i := 0) (by omega)
  have c1 : W5.cell? ⟨w2.heap.size, 1, none⟩ = some (.slice wa n wc) := R35.out.cell (i := 1) (by omega)
  have c2 : W5.cell? ⟨w2.heap.size, 2, none⟩ = some (.bool en) := R35.out.cell (i := 2) (by omega)
  have d0 : W5.cell? ⟨w4.heap.size, 0, none⟩ = some (.slice sa' k sc') := R5.out.cell (i := 0) (by omega)
  have d1 : W5.cell? ⟨w4.heap.size, 1, none⟩ = some (.slice wa' n wc') := R5.out.cell (i := 1) (by omega)
  have d2 : W5.cell? ⟨w4.heap.size, 2, none⟩ = some (.bool en) := R5.out.cell (i := 2) (by omega)
  have l24 : w2.heap.size ≤ W5.heap.size := by omega
  have l45 : w4.heap.size ≤ W5.heap.size := by omega
  have hws : w.heap.size ≤ W5.heap.size := by omega
  clear B45
  by_cases her : er = 0
  · subst her
    go_wp2_with (first
      | (go_at_call 11; refine (same_trace ((HS4.out.below HB45.out (Nat.le_refl _)).mono l45) ((HS2.out.below B25.out (Nat.le_refl _)).mono l24) ((HW4.out.below HB45.out (Nat.le_refl _)).mono l45) ((HW2.out.below B25.out (Nat.le_refl _)).mono l24) v2 v1).mono ?_; rintro e w6 ⟨rfl, hb6⟩; have HB6 := hide hb6; clear hb6)
      | (go_at_call 13; refine (same_answers (((HA4.out.below HB45.out (Nat.le_refl _)).mono l45).below HB6.out (Nat.le_refl _)) (((HA2.out.below B25.out (Nat.le_refl _)).mono l24).below HB6.out (Nat.le_refl _)) v3 V4.out).mono ?_; rintro e w7 ⟨rfl, m7, hw7⟩; subst hw7))
    go_ret
    exact ⟨rfl, below_drewN (B5.out.trans (HB6.out.mono hws)) _⟩
  · have hm := HNO.out her
    subst hm
    have er' : (er != 0) = true := by simpa using her
    have er2 : (er == 0) = false := by simpa using her
    go_wp2_with (go_at_call 11; refine (same_trace ((HS4.out.below HB45.out (Nat.le_refl _)).mono l45) ((HS2.out.below B25.out (Nat.le_refl _)).mono l24) ((HW4.out.below HB45.out (Nat.le_refl _)).mono l45) ((HW2.out.below B25.out (Nat.le_refl _)).mono l24) v2 v1).mono ?_; rintro e w6 ⟨rfl, hb6⟩; have HB6 := hide hb6; clear hb6)
    go_ret
    exact ⟨rfl, B5.out.trans (HB6.out.mono hws)⟩
theorem tasks_walk (S : Sees w w.heap.size ao P.n f) (hnil : ao = none → P.n = 0 ∧ cap = 0) (hf : ∀ i, i < P.n → 0 ≤ f i ∧ f i ≤ 18446744073709551615) (SH : SeesH w w.heap.size aoh P.nh P.jn P.jb) (hn63 : P.nh ≤ 9223372036854775807) (SI : SeesI w w.heap.size aos P.ns P.sched) (hjw : ∀ h, h < P.nh → ∀ j, j < P.jn h → (P.jb h j).wf) :
    Calls Tryz.prog 4 #[.agg #[.int .i64 sh.a, .int .i64 sh.b, .int .i64 sh.c, .int .i64 sh.d, .int .i64 sh.e, .int .i64 sh.f, .slice ao P.n cap, .slice aoh P.nh caph, .slice aos P.ns caps, .int .i64 most]] w fun e w' => e = .returned (.bool true) ∧ Below w.heap.size w w' := by
  by_cases h5 : Shape.R5 sh.a sh.b sh.c sh.d sh.e
  · by_cases hsz : (P.n : Int) = sizeOf sh
    · obtain ⟨want, h1, h2, h3⟩ := size_nat h5
      exact tasks_run h5 hsz (by omega) S hnil hf SH hn63 SI hjw
    · exact tasks_size h5 hsz
  · exact tasks_shape h5
end Shd
end Go.Proofs.YtnodkeoikamonaaGreat
