/-
  Lemmas: ShadeWW.
-/
import Derived.Test.YtnodkeoikamonaaTw35
import Derived.Test.YtnodkeoikamonaaTw36
/-
  ShadeWords: the law's own walk.
-/
namespace Go.Proofs.Ytnodkeoikamonaa
open Go.RowKit
set_option linter.unusedVariables false
set_option linter.unusedSimpArgs false
set_option linter.unnecessarySimpa false
set_option maxRecDepth 20000
namespace Shd
variable {w : World} {ao aoh aos : Option Addr} {cap caph caps : Nat} {P : Par} {f : Nat → Int} {most : Int} {sh : Shp}
set_option maxHeartbeats 8000000 in
theorem words_shape (h5 : ¬ Shape.R5 sh.a sh.b sh.c sh.d sh.e) :
    Calls Try.prog 4 #[.agg #[.int .i64 sh.a, .int .i64 sh.b, .int .i64 sh.c, .int .i64 sh.d, .int .i64 sh.e, .int .i64 sh.f, .slice ao P.n cap, .slice aoh P.nh caph, .slice aos P.ns caps, .int .i64 most]] w fun e w' => e = .returned (.bool true) ∧ Below w.heap.size w w' := by
  have SZ := hide (fun w1 : World => rsize_bad h5 w1)
  clear h5
  obtain ⟨s0, s1, s2, s3, s4, s5⟩ := sh
  simp only [Shp.val] at SZ ⊢
  obtain ⟨W0, hW0⟩ : ∃ W0, w.alloc (.cells #[.int .i64 s0, .int .i64 s1, .int .i64 s2, .int .i64 s3, .int .i64 s4, .int .i64 s5, .slice ao P.n cap, .slice aoh P.nh caph, .slice aos P.ns caps, .int .i64 most] 59) = W0 := ⟨_, rfl⟩
  have b0 : Below w.heap.size w W0 := by rw [← hW0]; exact (Below.refl _ w).alloc (Nat.le_refl _) _
  have R0 : W0.rowIs w.heap.size 59 10 (lrow [.int .i64 s0, .int .i64 s1, .int .i64 s2, .int .i64 s3, .int .i64 s4, .int .i64 s5, .slice ao P.n cap, .slice aoh P.nh caph, .slice aos P.ns caps, .int .i64 most]) := by rw [← hW0]; exact rowL_alloc w [.int .i64 s0, .int .i64 s1, .int .i64 s2, .int .i64 s3, .int .i64 s4, .int .i64 s5, .slice ao P.n cap, .slice aoh P.nh caph, .slice aos P.ns caps, .int .i64 most] _ rfl
  have keep : Hid (∀ w' : World, Below W0.heap.size W0 w' → Below w.heap.size w w' ∧ w.heap.size < w'.heap.size ∧ w'.cell? ⟨w.heap.size, 0, none⟩ = some (.int .i64 s0) ∧ w'.cell? ⟨w.heap.size, 1, none⟩ = some (.int .i64 s1) ∧ w'.cell? ⟨w.heap.size, 2, none⟩ = some (.int .i64 s2) ∧ w'.cell? ⟨w.heap.size, 3, none⟩ = some (.int .i64 s3) ∧ w'.cell? ⟨w.heap.size, 4, none⟩ = some (.int .i64 s4) ∧ w'.cell? ⟨w.heap.size, 5, none⟩ = some (.int .i64 s5) ∧
      w'.cell? ⟨w.heap.size, 6, none⟩ = some (.slice ao P.n cap) ∧ w'.cell? ⟨w.heap.size, 7, none⟩ = some (.slice aoh P.nh caph) ∧ w'.cell? ⟨w.heap.size, 8, none⟩ = some (.slice aos P.ns caps) ∧ w'.cell? ⟨w.heap.size, 9, none⟩ = some (.int .i64 most)) := fun w' hb => by
    have r := R0.of_block (hb.block w.heap.size R0.lt)
    exact ⟨b0.trans (hb.mono b0.size), r.lt, r.cell (i := 0) (by decide), r.cell (i := 1) (by decide), r.cell (i := 2) (by decide), r.cell (i := 3) (by decide), r.cell (i := 4) (by decide), r.cell (i := 5) (by decide), r.cell (i := 6) (by decide), r.cell (i := 7) (by decide), r.cell (i := 8) (by decide), r.cell (i := 9) (by decide)⟩
  have sz0 : W0.heap.size = w.heap.size + 1 := by rw [← hW0]; simp
  clear b0 R0
  go_enter Try.func4, Try.ntmps4
  go_wp2_with fail
  refine (awake_any W0).mono ?_
  rintro e w1 ⟨rfl, hb1⟩
  obtain ⟨bw1, l1, c0, c1, c2, c3, c4, c5, c6, c7, c8, c9⟩ := keep.out w1 hb1
  have BW1 := hide bw1
  clear hb1 bw1 hW0
  go_wp2_with fail
  refine (SZ.out w1).mono ?_
  rintro e w2 ⟨rfl, hg2⟩
  have B2 := hide (BW1.out.trans ((below_of_grown_none hg2 w1.heap.size (Nat.le_refl _)).mono BW1.out.size))
  clear hg2
  go_wp2_with fail
  go_ret
  exact ⟨rfl, B2.out⟩
set_option maxHeartbeats 8000000 in
theorem words_size (h5 : Shape.R5 sh.a sh.b sh.c sh.d sh.e) (hsz : ¬ (P.n : Int) = sizeOf sh) :
    Calls Try.prog 4 #[.agg #[.int .i64 sh.a, .int .i64 sh.b, .int .i64 sh.c, .int .i64 sh.d, .int .i64 sh.e, .int .i64 sh.f, .slice ao P.n cap, .slice aoh P.nh caph, .slice aos P.ns caps, .int .i64 most]] w fun e w' => e = .returned (.bool true) ∧ Below w.heap.size w w' := by
  have SZ := hide (fun w1 : World => rsize_ok h5 w1)
  obtain ⟨z, hz⟩ : ∃ z, sizeOf sh = z := ⟨_, rfl⟩
  rw [hz] at SZ hsz
  clear h5 hz
  have hsz' : ((P.n : Int) != z) = true := by simpa using hsz
  obtain ⟨s0, s1, s2, s3, s4, s5⟩ := sh
  simp only [Shp.val] at SZ ⊢
  obtain ⟨W0, hW0⟩ : ∃ W0, w.alloc (.cells #[.int .i64 s0, .int .i64 s1, .int .i64 s2, .int .i64 s3, .int .i64 s4, .int .i64 s5, .slice ao P.n cap, .slice aoh P.nh caph, .slice aos P.ns caps, .int .i64 most] 59) = W0 := ⟨_, rfl⟩
  have b0 : Below w.heap.size w W0 := by rw [← hW0]; exact (Below.refl _ w).alloc (Nat.le_refl _) _
  have R0 : W0.rowIs w.heap.size 59 10 (lrow [.int .i64 s0, .int .i64 s1, .int .i64 s2, .int .i64 s3, .int .i64 s4, .int .i64 s5, .slice ao P.n cap, .slice aoh P.nh caph, .slice aos P.ns caps, .int .i64 most]) := by rw [← hW0]; exact rowL_alloc w [.int .i64 s0, .int .i64 s1, .int .i64 s2, .int .i64 s3, .int .i64 s4, .int .i64 s5, .slice ao P.n cap, .slice aoh P.nh caph, .slice aos P.ns caps, .int .i64 most] _ rfl
  have keep : Hid (∀ w' : World, Below W0.heap.size W0 w' → Below w.heap.size w w' ∧ w.heap.size < w'.heap.size ∧ w'.cell? ⟨w.heap.size, 0, none⟩ = some (.int .i64 s0) ∧ w'.cell? ⟨w.heap.size, 1, none⟩ = some (.int .i64 s1) ∧ w'.cell? ⟨w.heap.size, 2, none⟩ = some (.int .i64 s2) ∧ w'.cell? ⟨w.heap.size, 3, none⟩ = some (.int .i64 s3) ∧ w'.cell? ⟨w.heap.size, 4, none⟩ = some (.int .i64 s4) ∧ w'.cell? ⟨w.heap.size, 5, none⟩ = some (.int .i64 s5) ∧
      w'.cell? ⟨w.heap.size, 6, none⟩ = some (.slice ao P.n cap) ∧ w'.cell? ⟨w.heap.size, 7, none⟩ = some (.slice aoh P.nh caph) ∧ w'.cell? ⟨w.heap.size, 8, none⟩ = some (.slice aos P.ns caps) ∧ w'.cell? ⟨w.heap.size, 9, none⟩ = some (.int .i64 most)) := fun w' hb => by
    have r := R0.of_block (hb.block w.heap.size R0.lt)
    exact ⟨b0.trans (hb.mono b0.size), r.lt, r.cell (i := 0) (by decide), r.cell (i := 1) (by decide), r.cell (i := 2) (by decide), r.cell (i := 3) (by decide), r.cell (i := 4) (by decide), r.cell (i := 5) (by decide), r.cell (i := 6) (by decide), r.cell (i := 7) (by decide), r.cell (i := 8) (by decide), r.cell (i := 9) (by decide)⟩
  have sz0 : W0.heap.size = w.heap.size + 1 := by rw [← hW0]; simp
  clear b0 R0
  go_enter Try.func4, Try.ntmps4
  go_wp2_with fail
  refine (awake_any W0).mono ?_
  rintro e w1 ⟨rfl, hb1⟩
  obtain ⟨bw1, l1, c0, c1, c2, c3, c4, c5, c6, c7, c8, c9⟩ := keep.out w1 hb1
  have BW1 := hide bw1
  clear hb1 bw1 hW0
  go_wp2_with fail
  refine (SZ.out w1).mono ?_
  rintro e w2 ⟨rfl, hg2⟩
  have B2 := hide (BW1.out.trans ((below_of_grown_none hg2 w1.heap.size (Nat.le_refl _)).mono BW1.out.size))
  have hb2 := below_of_grown_none hg2 w1.heap.size (Nat.le_refl _)
  have e6 := (hb2.cell (p := ⟨w.heap.size, 6, none⟩) l1).trans c6
  have l2 : w.heap.size < w2.heap.size := by have := hb2.size; omega
  clear hb2
  clear hg2
  go_wp2_with fail
  go_ret
  exact ⟨rfl, B2.out⟩
set_option maxHeartbeats 16000000 in
theorem words_run (h5 : Shape.R5 sh.a sh.b sh.c sh.d sh.e) (hsz : (P.n : Int) = sizeOf sh) (hn4 : P.n ≤ 4096) (S : Sees w w.heap.size ao P.n f) (hnil : ao = none → P.n = 0 ∧ cap = 0) (hf : ∀ i, i < P.n → 0 ≤ f i ∧ f i ≤ 18446744073709551615) (SH : SeesH w w.heap.size aoh P.nh P.jn P.jb) (hn63 : P.nh ≤ 9223372036854775807) (SI : SeesI w w.heap.size aos P.ns P.sched) (hjw : ∀ h, h < P.nh → ∀ j, j < P.jn h → (P.jb h j).wf) :
    Calls Try.prog 4 #[.agg #[.int .i64 sh.a, .int .i64 sh.b, .int .i64 sh.c, .int .i64 sh.d, .int .i64 sh.e, .int .i64 sh.f, .slice ao P.n cap, .slice aoh P.nh caph, .slice aos P.ns caps, .int .i64 most]] w fun e w' => e = .returned (.bool true) ∧ Below w.heap.size w w' := by
  have SZ := hide (fun w1 : World => rsize_ok h5 w1)
  rw [← hsz] at SZ
  have HSW := hide (fun (w1 : World) (B1 : Below w.heap.size w w1) => (S.below B1 (Nat.le_refl _)).mono B1.size)
  have PL := hide (fun (w1 : World) (B1 : Below w.heap.size w w1) => play_all (most := most) (cap := cap) (caph := caph) (caps := caps) h5 hsz (HSW.out w1 B1) hf ((SH.below B1 (Nat.le_refl _)).up B1.size) hn63 ((SI.below B1 (Nat.le_refl _)).up B1.size) hjw)
  have RDR := hide (fun m hk => rd_run (any := false) (sh := sh) hf hjw m hn4 hk)
  have ASK := hide (fun m i hi => (fun h => asks_of h5 h.1 h.2.1 h.2.2) (run_ok (any := false) (sh := sh) hf hjw m i hi))
  have hb5 := h5
  obtain ⟨s0, s1, s2, s3, s4, s5⟩ := sh
  simp only at hb5 hsz
  obtain ⟨⟨a1, a2⟩, ⟨b1, b2⟩, ⟨c1, c2⟩, ⟨d1, d2⟩, f1, f2⟩ := hb5
  obtain ⟨p1, hp1⟩ : ∃ p, s2 * (1 + s3) = p := ⟨_, rfl⟩
  have p1b : 0 ≤ p1 ∧ p1 ≤ 7 * 9 := by rw [← hp1]; exact ⟨Int.mul_nonneg (by omega) (by omega), Int.mul_le_mul c2 (by omega) (by omega) (by omega)⟩
  have wa : wrap64 (1 + s3) = 1 + s3 := by unfold wrap64; omega
  have wb : wrap64 (s2 * (1 + s3)) = p1 := by rw [hp1]; unfold wrap64; omega
  have wc : wrap64 (8 + p1) = 8 + p1 := by unfold wrap64; omega
  obtain ⟨H0, hH0⟩ : ∃ h, 8 + p1 + s4 = h := ⟨_, rfl⟩
  have wd : wrap64 (8 + p1 + s4) = H0 := by rw [← hH0]; unfold wrap64; omega
  have w3 : wrap64 (3 + s1) = 3 + s1 := by unfold wrap64; omega
  have n3 : ¬ 3 + s1 = 0 := by omega
  simp only [hp1, hH0] at ASK
  simp only [Shp.val] at SZ PL ⊢
  have HWS := hide (And.intro wa (And.intro wb (And.intro wc (And.intro wd (And.intro w3 n3)))))
  clear S SH SI hjw hf h5 hsz wa wb wc wd w3 n3 hp1 hH0 p1b
  obtain ⟨W0, hW0⟩ : ∃ W0, w.alloc (.cells #[.int .i64 s0, .int .i64 s1, .int .i64 s2, .int .i64 s3, .int .i64 s4, .int .i64 s5, .slice ao P.n cap, .slice aoh P.nh caph, .slice aos P.ns caps, .int .i64 most] 59) = W0 := ⟨_, rfl⟩
  have b0 : Below w.heap.size w W0 := by rw [← hW0]; exact (Below.refl _ w).alloc (Nat.le_refl _) _
  have R0 : W0.rowIs w.heap.size 59 10 (lrow [.int .i64 s0, .int .i64 s1, .int .i64 s2, .int .i64 s3, .int .i64 s4, .int .i64 s5, .slice ao P.n cap, .slice aoh P.nh caph, .slice aos P.ns caps, .int .i64 most]) := by rw [← hW0]; exact rowL_alloc w [.int .i64 s0, .int .i64 s1, .int .i64 s2, .int .i64 s3, .int .i64 s4, .int .i64 s5, .slice ao P.n cap, .slice aoh P.nh caph, .slice aos P.ns caps, .int .i64 most] _ rfl
  have keep : Hid (∀ w' : World, Below W0.heap.size W0 w' → Below w.heap.size w w' ∧ w.heap.size < w'.heap.size ∧ w'.cell? ⟨w.heap.size, 0, none⟩ = some (.int .i64 s0) ∧ w'.cell? ⟨w.heap.size, 1, none⟩ = some (.int .i64 s1) ∧ w'.cell? ⟨w.heap.size, 2, none⟩ = some (.int .i64 s2) ∧ w'.cell? ⟨w.heap.size, 3, none⟩ = some (.int .i64 s3) ∧ w'.cell? ⟨w.heap.size, 4, none⟩ = some (.int .i64 s4) ∧ w'.cell? ⟨w.heap.size, 5, none⟩ = some (.int .i64 s5) ∧
      w'.cell? ⟨w.heap.size, 6, none⟩ = some (.slice ao P.n cap) ∧ w'.cell? ⟨w.heap.size, 7, none⟩ = some (.slice aoh P.nh caph) ∧ w'.cell? ⟨w.heap.size, 8, none⟩ = some (.slice aos P.ns caps) ∧ w'.cell? ⟨w.heap.size, 9, none⟩ = some (.int .i64 most)) := fun w' hb => by
    have r := R0.of_block (hb.block w.heap.size R0.lt)
    exact ⟨b0.trans (hb.mono b0.size), r.lt, r.cell (i := 0) (by decide), r.cell (i := 1) (by decide), r.cell (i := 2) (by decide), r.cell (i := 3) (by decide), r.cell (i := 4) (by decide), r.cell (i := 5) (by decide), r.cell (i := 6) (by decide), r.cell (i := 7) (by decide), r.cell (i := 8) (by decide), r.cell (i := 9) (by decide)⟩
  have sz0 : W0.heap.size = w.heap.size + 1 := by rw [← hW0]; simp
  clear b0 R0
  go_enter Try.func4, Try.ntmps4
  go_wp2_with fail
  refine (awake_any W0).mono ?_
  rintro e w0 ⟨rfl, hb0⟩
  obtain ⟨bw0, l0, c0, c1', c2', c3, c4, c5, c6, c7, c8, c9⟩ := keep.out w0 hb0
  have HB0 := hide hb0
  have hs0 := hb0.size
  clear hb0 bw0 hW0
  go_wp2_with fail
  refine (SZ.out w0).mono ?_
  rintro e w1 ⟨rfl, hg1⟩
  have hb1 := HB0.out.trans ((below_of_grown_none hg1 w0.heap.size (Nat.le_refl _)).mono hs0)
  clear hg1 c0 c1' c2' c3 c4 c5 c6 c7 c8 c9 HB0
  obtain ⟨bw1, l1, c0, c1', c2', c3, c4, c5, c6, c7, c8, c9⟩ := keep.out w1 hb1
  have HB1 := hide hb1
  have BW1 := hide bw1
  have hs1 := hb1.size
  clear hb1 bw1
  go_wp2_with fail
  refine (PL.out w1 BW1.out).mono ?_
  rintro e w2 ⟨hb2, hcase⟩
  have B2 := hide (HB1.out.trans (hb2.mono hs1))
  have hs2 := hb2.size
  clear c0 c1' c2' c3 c4 c5 c6 c7 c8 c9
  rcases hcase with ⟨er, hle, rfl⟩ | ⟨_, hF, hok, v, rfl, blk, c, g', sv, rfl, HH, G, GS, R, hg, hne⟩
  · have her : ¬ er = 0 := by
      rcases hle with ⟨h, _⟩ | ⟨_, h⟩
      · exact absurd rfl h
      · exact h.ne
    have her' : (er != 0) = true := by simpa using her
    obtain ⟨bw2, -⟩ := keep.out w2 B2.out
    have BW2 := hide bw2
    clear hle bw2 hb2
    unfold errVal
    go_wp2_with fail
    go_ret
    exact ⟨rfl, BW2.out.alloc BW2.out.size _⟩
  · obtain ⟨sa, sc, rfl⟩ := GS.isSlice'
    have hk6 : (runSt P (st0 (kShd false ⟨s0, s1, s2, s3, s4, s5⟩) P f) most.toNat).k ≤ 65536 := by
      have := (runSt_k P (st0 (kShd false ⟨s0, s1, s2, s3, s4, s5⟩) P f) rfl most.toNat).1
      have := hF.2.2.2
      omega
    have hsc : (runSt P (st0 (kShd false ⟨s0, s1, s2, s3, s4, s5⟩) P f) most.toNat).k ≤ sc ∧ sc ≤ maxLen := by
      rcases GS with ⟨e1, e2, _⟩ | ⟨cap', F', e1, e2, e3, e4, _⟩
      · simp at e2; exact ⟨by omega, by rw [e2.2.2]; exact Nat.zero_le _⟩
      · simp at e1; obtain ⟨rfl, rfl⟩ := e1; exact ⟨e3, e4⟩
    have RDQ := RDR.out most.toNat hk6
    have ASQ := hide (fun i hi => ASK.out most.toNat i hi)
    have SS := GS.seesS HH
    have SF := R.sees
    obtain ⟨st, hst⟩ : ∃ st, runSt P (st0 (kShd false ⟨s0, s1, s2, s3, s4, s5⟩) P f) most.toNat = st := ⟨_, rfl⟩
    rw [hst] at RDQ ASQ SS SF hk6 hsc ⊢
    obtain ⟨kk, hkk⟩ : ∃ k, st.k = k := ⟨_, rfl⟩
    rw [hkk] at RDQ SS hk6 hsc ⊢
    have HKK := hide hkk
    obtain ⟨en, hen⟩ : ∃ en, decide (cnt (st.going P) P.nh = 0) = en := ⟨_, rfl⟩
    rw [hen]
    obtain ⟨ba, hba⟩ : ∃ b, blk .answers = b := ⟨_, rfl⟩
    rw [hba]
    clear GS HH G R hg hne hF hok hst hkk hen hba PL RDR ASK hb2
    obtain ⟨W3, hW3⟩ : ∃ W3, w2.alloc (.cells #[.slice sa kk sc, .slice (some ⟨g', 0, none⟩) P.n P.n, .bool en] 44) = W3 := ⟨_, rfl⟩
    have B23 : Below w2.heap.size w2 W3 := by rw [← hW3]; exact (Below.refl _ w2).alloc (Nat.le_refl _) _
    have HB03 := hide (B2.out.trans (B23.mono (Nat.le_trans hs1 hs2)))
    have R3 := hide (show W3.rowIs w2.heap.size 44 3 (lrow [.slice sa kk sc, .slice (some ⟨g', 0, none⟩) P.n P.n, .bool en]) from by rw [← hW3]; exact rowL_alloc w2 [.slice sa kk sc, .slice (some ⟨g', 0, none⟩) P.n P.n, .bool en] _ rfl)
    have hs3 : W3.heap.size = w2.heap.size + 1 := by rw [← hW3]; simp
    have HSS := hide (fun (wx : World) (hb : Below W3.heap.size W3 wx) => ((SS.below B23 (Nat.le_refl _)).below hb (by omega)).mono (show w2.heap.size ≤ wx.heap.size by have := hb.size; omega))
    have HSF := hide (fun (wx : World) (hb : Below W3.heap.size W3 wx) => ((SF.below B23 (Nat.le_refl _)).below hb (by omega)).mono (show w2.heap.size ≤ wx.heap.size by have := hb.size; omega))
    have KP := hide (fun (wx : World) (hb : Below W3.heap.size W3 wx) => And.intro (R3.out.of_block (hb.block _ R3.out.lt)) (keep.out wx (HB03.out.trans (hb.mono HB03.out.size))))
    have HR := hide RDQ
    clear SS SF B23 RDQ R3
    obtain ⟨rw3, bw3, l3, c0, c1', c2', c3, c4, c5, c6, c7, c8, c9⟩ := KP.out W3 (Below.refl _ _)
    have t0 : W3.cell? ⟨w2.heap.size, 0, none⟩ = some (.slice sa kk sc) := rw3.cell (i := 0) (by omega)
    have lt3 := rw3.lt
    obtain ⟨wa, wb, wc, wd, w3, n3⟩ := HWS.out
    clear rw3 bw3
    go_upto_region 10 with (fail)
    rw [wd]
    clear wa wb wc wd w3 n3 c0 c1' c2' c3 c4 c5 c6 c7 c8 c9 hW3
    go_wp2_with fail
    clear t0
    go_loopw [63] (fun i wr => ∃ k : Nat, k ≤ kk ∧ i = .int .i64 (k : Int) ∧ Below W3.heap.size W3 wr) (fun i _ => kk - (intOf i).toNat)
    case atStart => exact ⟨0, Nat.zero_le _, rfl, Below.refl _ _⟩
    case round =>
      obtain ⟨k, hk, rfl, hb⟩ := hrel
      have HBr := hide hb
      have hsr := hb.size
      obtain ⟨Wr, hWr⟩ : ∃ Wr, Wr = wr := ⟨_, rfl⟩
      subst hWr
      clear hb
      by_cases hlt : k < kk
      · have hlt' : (k : Int) < (kk : Int) := by omega
        obtain ⟨b, off, he, hbl, hcs⟩ := HSS.out Wr HBr.out k hlt
        subst he
        have x0 := hcs 0 (by omega)
        have x1 := hcs 1 (by omega)
        have x2 := hcs 2 (by omega)
        have x3 := hcs 3 (by omega)
        have x4 := hcs 4 (by omega)
        have x5 := hcs 5 (by omega)
        have hA := ASQ.out k (by rw [HKK.out]; exact hlt)
        obtain ⟨x, hx⟩ : ∃ x, st.s k = x := ⟨_, rfl⟩
        rw [hx] at x0 x1 x2 x3 x4 x5 hA
        simp only [Stp.cell] at x0 x1 x2 x3 x4 x5
        rw [Nat.add_zero] at x0
        obtain ⟨xh, xa, xt, xd, xp, xo⟩ := x
        simp only at x0 x1 x2 x3 x4 x5
        have hW := hA.ways
        simp only at hW
        obtain ⟨W4, hW4⟩ : ∃ W4, Wr.alloc (.cells #[.int .i64 xh, .int .i64 xa, .int .i64 xt, .int .u64 xd, .int .u64 xp, .bool xo] 63) = W4 := ⟨_, rfl⟩
        have R4 := hide (show W4.rowIs Wr.heap.size 63 6 (lrow [.int .i64 xh, .int .i64 xa, .int .i64 xt, .int .u64 xd, .int .u64 xp, .bool xo]) from by rw [← hW4]; exact rowL_alloc Wr [.int .i64 xh, .int .i64 xa, .int .i64 xt, .int .u64 xd, .int .u64 xp, .bool xo] _ rfl)
        have B4 : Below Wr.heap.size Wr W4 := by rw [← hW4]; exact (Below.refl _ Wr).alloc (Nat.le_refl _) _
        have HB4 := hide (HBr.out.trans (B4.mono hsr))
        have hs4 : W4.heap.size = Wr.heap.size + 1 := by rw [← hW4]; simp
        clear hA hx hcs B4
        have r4 := R4.out
        have y0 := r4.cell (i := 0) (by decide)
        have y1 : W4.cell? ⟨Wr.heap.size, 1, none⟩ = some (.int .i64 xa) := r4.cell (i := 1) (by decide)
        have y2 : W4.cell? ⟨Wr.heap.size, 2, none⟩ = some (.int .i64 xt) := r4.cell (i := 2) (by decide)
        have y3 : W4.cell? ⟨Wr.heap.size, 3, none⟩ = some (.int .u64 xd) := r4.cell (i := 3) (by decide)
        have y4 : W4.cell? ⟨Wr.heap.size, 4, none⟩ = some (.int .u64 xp) := r4.cell (i := 4) (by decide)
        have l4 : Wr.heap.size < W4.heap.size := by omega
        have kp4 := KP.out W4 HB4.out
        have d1 : W4.cell? ⟨w.heap.size, 1, none⟩ = some (.int .i64 s1) := kp4.2.2.2.2.1
        have ld : w.heap.size < W4.heap.size := by omega
        clear kp4 r4 y0
        go_upto_region 13 with (fail)
        clear x0 x1 x2 x3 x4 x5 hW4
        rcases hW with e1 | ⟨e1, e2, e3, e4⟩ | ⟨e1, e2, e3, e4, e5, e6⟩ | ⟨e1, e2, e3, e4, e5⟩
        · have z1 : (xd == xp) = true := by simpa using e1
          clear e1
          go_wp2_with fail
          go_roundw
          case rel => exact ⟨k + 1, Nat.succ_le_of_lt hlt, by go_num, HB4.out⟩
          case measure => (simp [intOf]; omega)
        · have z1 : (xd == xp) = false := by simpa using e1
          clear e1
          subst e2
          subst e3
          have e5 : bits .and .u64 (IntKind.u64.wrap (xd / 4294967296 + 1)) 4294967295 = xp / 4294967296 := by rw [IntKind.wrap_u64]; exact e4
          clear e4
          go_wp2_with fail
          go_roundw
          case rel => exact ⟨k + 1, Nat.succ_le_of_lt hlt, by go_num, HB4.out⟩
          case measure => (simp [intOf]; omega)
        · have z1 : (xd == xp) = false := by simpa using e1
          have z2 : (xt == 2) = false := by simpa using e2
          obtain ⟨wa, wb, wc, wd, w3, n3⟩ := HWS.out
          subst e5
          rw [w3] at e4
          clear e1 e2 wa wb wc wd
          go_wp2_with fail
          go_roundw
          case rel => exact ⟨k + 1, Nat.succ_le_of_lt hlt, by go_num, HB4.out⟩
          case measure => (simp [intOf]; omega)
        · have z1 : (xd == xp) = false := by simpa using e1
          have z2 : (xt == 2) = false := by simpa using e2
          obtain ⟨wa, wb, wc, wd, w3, n3⟩ := HWS.out
          subst e5
          rw [w3] at e4
          clear e1 e2 wa wb wc wd
          go_wp2_with fail
          go_roundw
          case rel => exact ⟨k + 1, Nat.succ_le_of_lt hlt, by go_num, HB4.out⟩
          case measure => (simp [intOf]; omega)
      · have hlt' : ¬ (k : Int) < (kk : Int) := by omega
        obtain rfl : k = kk := by omega
        obtain ⟨rw3, bw3, l4, c0, c1', c2', c3, c4, c5, c6, c7, c8, c9⟩ := KP.out Wr HBr.out
        have t0 : Wr.cell? ⟨w2.heap.size, 0, none⟩ = some (.slice sa k sc) := rw3.cell (i := 0) (by omega)
        have lt4 := rw3.lt
        have BWr := hide bw3
        clear bw3 rw3 c0 c1' c2' c3 c4 c5 c7 c8 c9
        have RP := Vw.replay_v (cap := cap) (cs := sc) (n := (k : Int)) (a := fun i => toSp (st.s i)) (w := Wr) (HSW.out Wr BWr.out) (fun j hj => by
          obtain ⟨b, off, e, hl, hc⟩ := HSS.out Wr HBr.out j hj
          exact ⟨b, off, e, hl, fun i hi => (hc i hi).trans (by
            match i, hi with
            | 0, _ => rfl
            | 1, _ => rfl
            | 2, _ => rfl
            | 3, _ => rfl
            | 4, _ => rfl
            | 5, _ => rfl)⟩) hsc.1 hsc.2 (by omega)
        rw [HR.out] at RP
        simp only at RP
        have RP' := hide RP
        clear RP
        go_wp2_with fail
        refine RP'.out.mono ?_
        rintro e W5 ⟨⟨go, gc, rfl, ho⟩, hb5⟩
        have HB5 := hide (HBr.out.trans (hb5.mono hsr))
        have SG := hide (Vw.owns_sees ho.out)
        have kp5 := KP.out W5 HB5.out
        have t1 : W5.cell? ⟨w2.heap.size, 1, none⟩ = some (.slice (some ⟨g', 0, none⟩) P.n P.n) := kp5.1.cell (i := 1) (by omega)
        have lt5 := kp5.1.lt
        have BW5 := hide kp5.2.1
        clear kp5 c6 t0 hb5 ho
        go_wp2_with fail
        refine (same_words SG.out (HSF.out W5 HB5.out) (fun i hi => rfl) (by omega)).mono ?_
        rintro e W6 ⟨rfl, m, rfl⟩
        go_wp2_with fail
        go_ret
        exact ⟨rfl, below_drewN BW5.out _⟩
theorem words_walk (S : Sees w w.heap.size ao P.n f) (hnil : ao = none → P.n = 0 ∧ cap = 0) (hf : ∀ i, i < P.n → 0 ≤ f i ∧ f i ≤ 18446744073709551615) (SH : SeesH w w.heap.size aoh P.nh P.jn P.jb) (hn63 : P.nh ≤ 9223372036854775807) (SI : SeesI w w.heap.size aos P.ns P.sched) (hjw : ∀ h, h < P.nh → ∀ j, j < P.jn h → (P.jb h j).wf) :
    Calls Try.prog 4 #[.agg #[.int .i64 sh.a, .int .i64 sh.b, .int .i64 sh.c, .int .i64 sh.d, .int .i64 sh.e, .int .i64 sh.f, .slice ao P.n cap, .slice aoh P.nh caph, .slice aos P.ns caps, .int .i64 most]] w fun e w' => e = .returned (.bool true) ∧ Below w.heap.size w w' := by
  by_cases h5 : Shape.R5 sh.a sh.b sh.c sh.d sh.e
  · by_cases hsz : (P.n : Int) = sizeOf sh
    · obtain ⟨want, h1, h2, h3⟩ := size_nat h5
      exact words_run h5 hsz (by omega) S hnil hf SH hn63 SI hjw
    · exact words_size h5 hsz
  · exact words_shape h5
end Shd
end Go.Proofs.Ytnodkeoikamonaa
