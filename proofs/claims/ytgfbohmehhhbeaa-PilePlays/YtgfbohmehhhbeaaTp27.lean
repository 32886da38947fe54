/-
  Lemmas: RKind, PileRS, RGS.
-/
import Derived.Test.YtgfbohmehhhbeaaTp24
import Derived.Test.YtgfbohmehhhbeaaTp05
import Derived.Test.YtgfbohmehhhbeaaTp18
/-
  What a layer's reference does with its tasks.
-/
namespace Go.Proofs.Ytgfbohmehhhbeaa
open Go.RowKit
set_option linter.unusedVariables false

structure RKind (K : Kd) (rep : List Value → K.σ → Prop) (sh : Shp) (fst fsp : FuncId) : Prop where
  start : ∀ (k : Int) (j : Jb), 0 ≤ k → k < 8 → j.wf → ∃ cs, IsTk cs ∧ (K.err j = 0 → rep cs (K.init k j)) ∧ ∀ w : World, Calls Try.prog fst #[sh.val, .int .i64 k, j.val, kept0] w fun e w' => e = .returned (.tuple #[.agg cs.toArray, .int .i64 (K.err j)]) ∧ Below w.heap.size w w'
  step : ∀ (cs : List Value) (s : K.σ), IsTk cs → rep cs s → ∀ (n : Nat) (f : Nat → Int), (∀ i, i < n → 0 ≤ f i ∧ f i ≤ 18446744073709551615) → ∃ cs', IsTk cs' ∧ (¬ K.ends s (stepOf n f (K.req s)) = true → rep cs' (K.next s (stepOf n f (K.req s)))) ∧
    (K.ends s (stepOf n f (K.req s)) = true → cs'[22]? = some (.bool (K.tell (K.next s (stepOf n f (K.req s)))).ok) ∧ cs'[23]? = some (.int .u64 (K.tell (K.next s (stepOf n f (K.req s)))).val)) ∧ (∀ q, q < 4 → cs'[24 + q]? = some (.int .u64 0)) ∧
    ∀ (w : World) (g cap : Nat), IsRow w g n cap f → Calls Try.prog fsp #[.agg cs.toArray, .slice (some ⟨g, 0, none⟩) n cap] w fun e w' => e = .returned (.tuple #[.agg cs'.toArray, (stepOf n f (K.req s)).val, .bool (K.ends s (stepOf n f (K.req s)))]) ∧ IsRow w' g n cap (wordsOf n f (K.req s)) ∧ w.grownBy w' (some g)
end Go.Proofs.Ytgfbohmehhhbeaa

/-
  The pile's reference: Size and Start.
-/
namespace Go.Proofs.Ytgfbohmehhhbeaa
open Go.RowKit
set_option linter.unusedVariables false
set_option linter.unusedSimpArgs false
set_option linter.unnecessarySimpa false
set_option maxRecDepth 20000
namespace Pile

theorem check_ok (w : World) (sh : Shp) (h1 : 1 ≤ sh.f) (h2 : sh.f ≤ 64) : Calls Try.prog 39 #[sh.val] w fun e w' => e = .returned (.int .i64 0) ∧ w.grownBy w' none := by
  obtain ⟨s0, s1, s2, s3, s4, s5⟩ := sh
  simp only [Shp.val] at h1 h2 ⊢
  have g1 : ¬ s5 < 1 := by omega
  have g2 : ¬ 64 < s5 := by omega
  go_enter Try.func39, Try.ntmps39
  go_wp2
  go_ret
  exact ⟨rfl, grown_alloc (grown_refl _ _) _⟩
theorem check_bad (w : World) (sh : Shp) (h : sh.f < 1 ∨ 64 < sh.f) : Calls Try.prog 39 #[sh.val] w fun e w' => e = .returned (.int .i64 120) ∧ w.grownBy w' none := by
  obtain ⟨s0, s1, s2, s3, s4, s5⟩ := sh
  simp only [Shp.val] at h ⊢
  by_cases g1 : s5 < 1
  · go_enter Try.func39, Try.ntmps39
    go_wp2
    go_ret
    exact ⟨rfl, grown_alloc (grown_refl _ _) _⟩
  · have g2 : 64 < s5 := by omega
    go_enter Try.func39, Try.ntmps39
    go_wp2
    go_ret
    exact ⟨rfl, grown_alloc (grown_refl _ _) _⟩
theorem rsize_ok (w : World) (sh : Shp) (h1 : 1 ≤ sh.f) (h2 : sh.f ≤ 64) : Calls Try.prog 14 #[sh.val] w fun e w' => e = .returned (.tuple #[.int .i64 (2 + 2 * sh.f), .int .i64 0]) ∧ w.grownBy w' none := by
  obtain ⟨s0, s1, s2, s3, s4, s5⟩ := sh
  simp only [Shp.val] at h1 h2 ⊢
  have g3 : wrap64 (2 * s5) = 2 * s5 := by unfold wrap64; omega
  have g4 : wrap64 (2 + 2 * s5) = 2 + 2 * s5 := by unfold wrap64; omega
  go_enter Try.func14, Try.ntmps14
  go_wp2_with (go_at_call 39; refine (check_ok _ ⟨s0, s1, s2, s3, s4, s5⟩ h1 h2).mono ?_; rintro e w1 ⟨rfl, hg1⟩; have HG := hide hg1; have sh5 : w1.cell? ⟨w.heap.size, 5, none⟩ = some (.int .i64 s5) := hg1.cell (a := ⟨w.heap.size, 5, none⟩) (by simp) (by simp); clear hg1)
  go_ret2
  exact ⟨rfl, grown_trans (grown_alloc (grown_refl _ _) _) HG.out⟩
theorem rsize_bad (w : World) (sh : Shp) (h : sh.f < 1 ∨ 64 < sh.f) : Calls Try.prog 14 #[sh.val] w fun e w' => e = .returned (.tuple #[.int .i64 0, .int .i64 120]) ∧ w.grownBy w' none := by
  obtain ⟨s0, s1, s2, s3, s4, s5⟩ := sh
  simp only [Shp.val] at h ⊢
  go_enter Try.func14, Try.ntmps14
  go_wp2_with (go_at_call 39; refine (check_bad _ ⟨s0, s1, s2, s3, s4, s5⟩ h).mono ?_; rintro e w1 ⟨rfl, hg1⟩; have HG := hide hg1; clear hg1)
  go_ret2
  exact ⟨rfl, grown_trans (grown_alloc (grown_refl _ _) _) HG.out⟩

set_option maxHeartbeats 4000000 in
theorem rstart_ok (w : World) (s0 s1 s2 s3 s4 s5 hand kind a b c hh : Int) (h1 : 1 ≤ s5) (h2 : s5 ≤ 64) (g1 : ¬ hand < 0) (g2 : ¬ 8 ≤ hand) (hk : kind = 1 ∨ kind = 2) :
    Calls Try.prog 16 #[.agg #[.int .i64 s0, .int .i64 s1, .int .i64 s2, .int .i64 s3, .int .i64 s4, .int .i64 s5], .int .i64 hand, .agg #[.int .i64 kind, .int .i64 a, .int .i64 b, .int .i64 c, .int .u64 hh], .agg #[.int .u64 0, .int .u64 0, .int .u64 0, .int .u64 0]] w fun e w' => e = .returned (.tuple #[.agg (tk ⟨s0, s1, s2, s3, s4, s5⟩ hand ⟨kind, a, b, c, hh⟩ 0 .zero ⟨false, 0⟩).toArray, .int .i64 0]) ∧ Below w.heap.size w w' := by
  obtain ⟨l, hl⟩ : ∃ l, tk ⟨s0, s1, s2, s3, s4, s5⟩ hand ⟨kind, a, b, c, hh⟩ 0 .zero ⟨false, 0⟩ = l := ⟨_, rfl⟩
  rw [hl]
  have hl1 := hide (show IsTk l from by rw [← hl]; exact tk_is _ _ _ _ _ _)
  have HLA := hide (show Value.agg #[.int .i64 s0, .int .i64 s1, .int .i64 s2, .int .i64 s3, .int .i64 s4, .int .i64 s5, .int .i64 hand, .int .i64 kind, .int .i64 a, .int .i64 b, .int .i64 c, .int .u64 hh, .int .i64 0, .int .u64 0, .int .u64 0, .int .u64 0, .int .u64 0, .int .u64 0, .int .u64 0, .int .u64 0, .int .u64 0, .slice none 0 0, .bool false, .int .u64 0, .int .u64 0, .int .u64 0, .int .u64 0, .int .u64 0] = .agg l.toArray from by rw [← hl]; rfl)
  obtain ⟨W4, hW4⟩ : ∃ W4, (((w.alloc (.cells #[.int .i64 s0, .int .i64 s1, .int .i64 s2, .int .i64 s3, .int .i64 s4, .int .i64 s5] 23)).alloc (.cells #[.int .i64 kind, .int .i64 a, .int .i64 b, .int .i64 c, .int .u64 hh] 42)).alloc (.cells #[.int .u64 0, .int .u64 0, .int .u64 0, .int .u64 0] 51)).alloc (.cells #[.int .i64 0, .int .i64 0, .int .i64 0, .int .i64 0, .int .i64 0, .int .i64 0, .int .i64 0, .int .i64 0, .int .i64 0, .int .i64 0, .int .i64 0, .int .u64 0, .int .i64 0, .int .u64 0, .int .u64 0, .int .u64 0, .int .u64 0, .int .u64 0, .int .u64 0, .int .u64 0, .int .u64 0, .slice none 0 0, .bool false, .int .u64 0, .int .u64 0, .int .u64 0, .int .u64 0, .int .u64 0] 53) = W4 := ⟨_, rfl⟩
  have th : W4.there (w.heap.size + 3) 0 28 := by
    rw [← hW4]
    have := there_alloc_new (w := (((w.alloc (.cells #[.int .i64 s0, .int .i64 s1, .int .i64 s2, .int .i64 s3, .int .i64 s4, .int .i64 s5] 23)).alloc (.cells #[.int .i64 kind, .int .i64 a, .int .i64 b, .int .i64 c, .int .u64 hh] 42)).alloc (.cells #[.int .u64 0, .int .u64 0, .int .u64 0, .int .u64 0] 51))) (t := 53) (cs := tk0)
    simpa [tk0] using this
  have sz4 : W4.heap.size = w.heap.size + 4 := by rw [← hW4]; simp
  have B4 := hide (show Below w.heap.size w W4 from by rw [← hW4]; exact ((((Below.refl _ w).alloc (Nat.le_refl _) _).alloc (by simp) _).alloc (by simp; omega) _).alloc (by simp; omega) _)
  have r0 : W4.rangeAt w.heap.size 0 [.int .i64 s0, .int .i64 s1, .int .i64 s2, .int .i64 s3, .int .i64 s4, .int .i64 s5] := by rw [← hW4]; exact World.rangeAt_alloc (World.rangeAt_alloc (World.rangeAt_alloc (cell_range (b := 0)) _) _) _
  have r1 : W4.rangeAt (w.heap.size + 1) 0 [.int .i64 kind, .int .i64 a, .int .i64 b, .int .i64 c, .int .u64 hh] := by
    rw [← hW4]
    have := cell_range (b := 0) (w := w.alloc (.cells #[.int .i64 s0, .int .i64 s1, .int .i64 s2, .int .i64 s3, .int .i64 s4, .int .i64 s5] 23)) (t := 42) (cs := [.int .i64 kind, .int .i64 a, .int .i64 b, .int .i64 c, .int .u64 hh])
    rw [World.size_alloc] at this
    exact World.rangeAt_alloc (World.rangeAt_alloc this _) _
  have HR0 := hide r0
  have HR1 := hide r1
  have HTH := hide th
  have g := fun i v hv => r0 i v hv
  simp only [Nat.zero_add] at g
  have q0 := g 0 _ rfl
  have q1 := g 1 _ rfl
  have q2 := g 2 _ rfl
  have q3 := g 3 _ rfl
  have q4 := g 4 _ rfl
  have q5 := g 5 _ rfl
  clear g r0 r1 th
  obtain ⟨dT, hdT1, hdT2⟩ := row79
  have DT1 := hide hdT1
  have DT2 := hide hdT2
  clear hdT1 hdT2 hl
  rcases hk with rfl | rfl
  · skip
    go_enter Try.func16, Try.ntmps16
    go_wp2_with (first
      | (go_at_call 39; refine (check_ok _ ⟨s0, s1, s2, s3, s4, s5⟩ h1 h2).mono ?_; rintro e w1 ⟨rfl, hg⟩; have HB := hide (below_of_grown_none hg W4.heap.size (Nat.le_refl _)); have t0 := rangeAt_block HR0.out (HB.out.block w.heap.size (by omega)); have t1 := rangeAt_block HR1.out (HB.out.block (w.heap.size + 1) (by omega)); have g := (fun i v hv => t0 i v hv); have g' := (fun i v hv => t1 i v hv); simp only [Nat.zero_add] at g g'; have c0 := g 0 _ rfl; have c1 := g 1 _ rfl; have c2 := g 2 _ rfl; have c3 := g 3 _ rfl; have c4 := g 4 _ rfl; have c5 := g 5 _ rfl; have d0 := g' 0 _ rfl;  have d1 := g' 1 _ rfl;  have d2 := g' 2 _ rfl;  have d3 := g' 3 _ rfl;  have d4 := g' 4 _ rfl; have HT1 := hide (there_block HTH.out (HB.out.block (w.heap.size + 3) (by omega))); clear g g' t0 t1 hg)
      | (refine wpList_store_mid (by rfl) 53 (.tmp 8) (.tmp 33) (by rfl) (w.heap.size + 3) 0 l.toArray (by rfl) (by exact HLA.out) (by simpa [hl1.out.1] using HT1.out) (by simpa [hl1.out.1] using size79) (by exact all_oneCell_toArray hl1.out.2) ?_))
    have r5 := World.rangeAt_setCells_same w1 (w.heap.size + 3) 0 l (by rw [hl1.out.1]; exact HT1.out)
    refine bodyPost_ret (v := .tuple #[.agg l.toArray, .int .i64 0]) ?res rfl ⟨rfl, ?bel⟩
    case res => exact results_ct (fn := Try.f16) (t := 8) (t' := 9) (by rfl) (by rfl) (run_loadVar_mid _ _ 0 _ l dT r5 DT1.out DT2.out (by rw [hl1.out.1]; exact size79))
    case bel => exact (B4.out.trans (HB.out.mono (by omega))).trans ((touch_setCells (w.heap.size + 3) l 0 w1).below (fun k hk => by omega) (by have := HB.out.size; omega))
  · skip
    go_enter Try.func16, Try.ntmps16
    go_wp2_with (first
      | (go_at_call 39; refine (check_ok _ ⟨s0, s1, s2, s3, s4, s5⟩ h1 h2).mono ?_; rintro e w1 ⟨rfl, hg⟩; have HB := hide (below_of_grown_none hg W4.heap.size (Nat.le_refl _)); have t0 := rangeAt_block HR0.out (HB.out.block w.heap.size (by omega)); have t1 := rangeAt_block HR1.out (HB.out.block (w.heap.size + 1) (by omega)); have g := (fun i v hv => t0 i v hv); have g' := (fun i v hv => t1 i v hv); simp only [Nat.zero_add] at g g'; have c0 := g 0 _ rfl; have c1 := g 1 _ rfl; have c2 := g 2 _ rfl; have c3 := g 3 _ rfl; have c4 := g 4 _ rfl; have c5 := g 5 _ rfl; have d0 := g' 0 _ rfl;  have d1 := g' 1 _ rfl;  have d2 := g' 2 _ rfl;  have d3 := g' 3 _ rfl;  have d4 := g' 4 _ rfl; have HT1 := hide (there_block HTH.out (HB.out.block (w.heap.size + 3) (by omega))); clear g g' t0 t1 hg)
      | (refine wpList_store_mid (by rfl) 53 (.tmp 8) (.tmp 33) (by rfl) (w.heap.size + 3) 0 l.toArray (by rfl) (by exact HLA.out) (by simpa [hl1.out.1] using HT1.out) (by simpa [hl1.out.1] using size79) (by exact all_oneCell_toArray hl1.out.2) ?_))
    have r5 := World.rangeAt_setCells_same w1 (w.heap.size + 3) 0 l (by rw [hl1.out.1]; exact HT1.out)
    refine bodyPost_ret (v := .tuple #[.agg l.toArray, .int .i64 0]) ?res rfl ⟨rfl, ?bel⟩
    case res => exact results_ct (fn := Try.f16) (t := 8) (t' := 9) (by rfl) (by rfl) (run_loadVar_mid _ _ 0 _ l dT r5 DT1.out DT2.out (by rw [hl1.out.1]; exact size79))
    case bel => exact (B4.out.trans (HB.out.mono (by omega))).trans ((touch_setCells (w.heap.size + 3) l 0 w1).below (fun k hk => by omega) (by have := HB.out.size; omega))

set_option maxHeartbeats 4000000 in
theorem rstart_kind (w : World) (s0 s1 s2 s3 s4 s5 hand kind a b c hh : Int) (h1 : 1 ≤ s5) (h2 : s5 ≤ 64) (g1 : ¬ hand < 0) (g2 : ¬ 8 ≤ hand) (k1 : ¬ kind = 1) (k2 : ¬ kind = 2) :
    Calls Try.prog 16 #[.agg #[.int .i64 s0, .int .i64 s1, .int .i64 s2, .int .i64 s3, .int .i64 s4, .int .i64 s5], .int .i64 hand, .agg #[.int .i64 kind, .int .i64 a, .int .i64 b, .int .i64 c, .int .u64 hh], .agg #[.int .u64 0, .int .u64 0, .int .u64 0, .int .u64 0]] w fun e w' => e = .returned (.tuple #[.agg (tk0).toArray, .int .i64 200]) ∧ Below w.heap.size w w' := by
  obtain ⟨l, hl⟩ : ∃ l, tk0 = l := ⟨_, rfl⟩
  rw [hl]
  have hl1 := hide (show IsTk l from by rw [← hl]; exact tk0_is)
  have HLA := hide (show Value.agg #[.int .i64 0, .int .i64 0, .int .i64 0, .int .i64 0, .int .i64 0, .int .i64 0, .int .i64 0, .int .i64 0, .int .i64 0, .int .i64 0, .int .i64 0, .int .u64 0, .int .i64 0, .int .u64 0, .int .u64 0, .int .u64 0, .int .u64 0, .int .u64 0, .int .u64 0, .int .u64 0, .int .u64 0, .slice none 0 0, .bool false, .int .u64 0, .int .u64 0, .int .u64 0, .int .u64 0, .int .u64 0] = .agg l.toArray from by rw [← hl]; rfl)
  obtain ⟨W4, hW4⟩ : ∃ W4, (((w.alloc (.cells #[.int .i64 s0, .int .i64 s1, .int .i64 s2, .int .i64 s3, .int .i64 s4, .int .i64 s5] 23)).alloc (.cells #[.int .i64 kind, .int .i64 a, .int .i64 b, .int .i64 c, .int .u64 hh] 42)).alloc (.cells #[.int .u64 0, .int .u64 0, .int .u64 0, .int .u64 0] 51)).alloc (.cells #[.int .i64 0, .int .i64 0, .int .i64 0, .int .i64 0, .int .i64 0, .int .i64 0, .int .i64 0, .int .i64 0, .int .i64 0, .int .i64 0, .int .i64 0, .int .u64 0, .int .i64 0, .int .u64 0, .int .u64 0, .int .u64 0, .int .u64 0, .int .u64 0, .int .u64 0, .int .u64 0, .int .u64 0, .slice none 0 0, .bool false, .int .u64 0, .int .u64 0, .int .u64 0, .int .u64 0, .int .u64 0] 53) = W4 := ⟨_, rfl⟩
  have th : W4.there (w.heap.size + 3) 0 28 := by
    rw [← hW4]
    have := there_alloc_new (w := (((w.alloc (.cells #[.int .i64 s0, .int .i64 s1, .int .i64 s2, .int .i64 s3, .int .i64 s4, .int .i64 s5] 23)).alloc (.cells #[.int .i64 kind, .int .i64 a, .int .i64 b, .int .i64 c, .int .u64 hh] 42)).alloc (.cells #[.int .u64 0, .int .u64 0, .int .u64 0, .int .u64 0] 51))) (t := 53) (cs := tk0)
    simpa [tk0] using this
  have sz4 : W4.heap.size = w.heap.size + 4 := by rw [← hW4]; simp
  have B4 := hide (show Below w.heap.size w W4 from by rw [← hW4]; exact ((((Below.refl _ w).alloc (Nat.le_refl _) _).alloc (by simp) _).alloc (by simp; omega) _).alloc (by simp; omega) _)
  have r0 : W4.rangeAt w.heap.size 0 [.int .i64 s0, .int .i64 s1, .int .i64 s2, .int .i64 s3, .int .i64 s4, .int .i64 s5] := by rw [← hW4]; exact World.rangeAt_alloc (World.rangeAt_alloc (World.rangeAt_alloc (cell_range (b := 0)) _) _) _
  have r1 : W4.rangeAt (w.heap.size + 1) 0 [.int .i64 kind, .int .i64 a, .int .i64 b, .int .i64 c, .int .u64 hh] := by
    rw [← hW4]
    have := cell_range (b := 0) (w := w.alloc (.cells #[.int .i64 s0, .int .i64 s1, .int .i64 s2, .int .i64 s3, .int .i64 s4, .int .i64 s5] 23)) (t := 42) (cs := [.int .i64 kind, .int .i64 a, .int .i64 b, .int .i64 c, .int .u64 hh])
    rw [World.size_alloc] at this
    exact World.rangeAt_alloc (World.rangeAt_alloc this _) _
  have HR0 := hide r0
  have HR1 := hide r1
  have HTH := hide th
  have g := fun i v hv => r0 i v hv
  simp only [Nat.zero_add] at g
  have q0 := g 0 _ rfl
  have q1 := g 1 _ rfl
  have q2 := g 2 _ rfl
  have q3 := g 3 _ rfl
  have q4 := g 4 _ rfl
  have q5 := g 5 _ rfl
  clear g r0 r1 th
  obtain ⟨dT, hdT1, hdT2⟩ := row79
  have DT1 := hide hdT1
  have DT2 := hide hdT2
  clear hdT1 hdT2 hl
  have k1' : (kind != 1) = true := by simpa using k1
  have k2' : (kind != 2) = true := by simpa using k2
  · skip
    go_enter Try.func16, Try.ntmps16
    go_wp2_with (first
      | (go_at_call 39; refine (check_ok _ ⟨s0, s1, s2, s3, s4, s5⟩ h1 h2).mono ?_; rintro e w1 ⟨rfl, hg⟩; have HB := hide (below_of_grown_none hg W4.heap.size (Nat.le_refl _)); have t0 := rangeAt_block HR0.out (HB.out.block w.heap.size (by omega)); have t1 := rangeAt_block HR1.out (HB.out.block (w.heap.size + 1) (by omega)); have g := (fun i v hv => t0 i v hv); have g' := (fun i v hv => t1 i v hv); simp only [Nat.zero_add] at g g'; have c0 := g 0 _ rfl; have c1 := g 1 _ rfl; have c2 := g 2 _ rfl; have c3 := g 3 _ rfl; have c4 := g 4 _ rfl; have c5 := g 5 _ rfl; have d0 := g' 0 _ rfl;  have d1 := g' 1 _ rfl;  have d2 := g' 2 _ rfl;  have d3 := g' 3 _ rfl;  have d4 := g' 4 _ rfl; have HT1 := hide (there_block HTH.out (HB.out.block (w.heap.size + 3) (by omega))); clear g g' t0 t1 hg)
      | (refine wpList_store_mid (by rfl) 53 (.tmp 8) (.tmp 29) (by rfl) (w.heap.size + 3) 0 l.toArray (by rfl) (by exact HLA.out) (by simpa [hl1.out.1] using HT1.out) (by simpa [hl1.out.1] using size79) (by exact all_oneCell_toArray hl1.out.2) ?_))
    have r5 := World.rangeAt_setCells_same w1 (w.heap.size + 3) 0 l (by rw [hl1.out.1]; exact HT1.out)
    refine bodyPost_ret (v := .tuple #[.agg l.toArray, .int .i64 200]) ?res rfl ⟨rfl, ?bel⟩
    case res => exact results_ct (fn := Try.f16) (t := 8) (t' := 9) (by rfl) (by rfl) (run_loadVar_mid _ _ 0 _ l dT r5 DT1.out DT2.out (by rw [hl1.out.1]; exact size79))
    case bel => exact (B4.out.trans (HB.out.mono (by omega))).trans ((touch_setCells (w.heap.size + 3) l 0 w1).below (fun k hk => by omega) (by have := HB.out.size; omega))

set_option maxHeartbeats 4000000 in
theorem rstart_arg (w : World) (s0 s1 s2 s3 s4 s5 hand kind a b c hh : Int) (h1 : 1 ≤ s5) (h2 : s5 ≤ 64) (hk : hand < 0 ∨ (¬ hand < 0 ∧ 8 ≤ hand)) :
    Calls Try.prog 16 #[.agg #[.int .i64 s0, .int .i64 s1, .int .i64 s2, .int .i64 s3, .int .i64 s4, .int .i64 s5], .int .i64 hand, .agg #[.int .i64 kind, .int .i64 a, .int .i64 b, .int .i64 c, .int .u64 hh], .agg #[.int .u64 0, .int .u64 0, .int .u64 0, .int .u64 0]] w fun e w' => e = .returned (.tuple #[.agg (tk0).toArray, .int .i64 2]) ∧ Below w.heap.size w w' := by
  obtain ⟨l, hl⟩ : ∃ l, tk0 = l := ⟨_, rfl⟩
  rw [hl]
  have hl1 := hide (show IsTk l from by rw [← hl]; exact tk0_is)
  have HLA := hide (show Value.agg #[.int .i64 0, .int .i64 0, .int .i64 0, .int .i64 0, .int .i64 0, .int .i64 0, .int .i64 0, .int .i64 0, .int .i64 0, .int .i64 0, .int .i64 0, .int .u64 0, .int .i64 0, .int .u64 0, .int .u64 0, .int .u64 0, .int .u64 0, .int .u64 0, .int .u64 0, .int .u64 0, .int .u64 0, .slice none 0 0, .bool false, .int .u64 0, .int .u64 0, .int .u64 0, .int .u64 0, .int .u64 0] = .agg l.toArray from by rw [← hl]; rfl)
  obtain ⟨W4, hW4⟩ : ∃ W4, (((w.alloc (.cells #[.int .i64 s0, .int .i64 s1, .int .i64 s2, .int .i64 s3, .int .i64 s4, .int .i64 s5] 23)).alloc (.cells #[.int .i64 kind, .int .i64 a, .int .i64 b, .int .i64 c, .int .u64 hh] 42)).alloc (.cells #[.int .u64 0, .int .u64 0, .int .u64 0, .int .u64 0] 51)).alloc (.cells #[.int .i64 0, .int .i64 0, .int .i64 0, .int .i64 0, .int .i64 0, .int .i64 0, .int .i64 0, .int .i64 0, .int .i64 0, .int .i64 0, .int .i64 0, .int .u64 0, .int .i64 0, .int .u64 0, .int .u64 0, .int .u64 0, .int .u64 0, .int .u64 0, .int .u64 0, .int .u64 0, .int .u64 0, .slice none 0 0, .bool false, .int .u64 0, .int .u64 0, .int .u64 0, .int .u64 0, .int .u64 0] 53) = W4 := ⟨_, rfl⟩
  have th : W4.there (w.heap.size + 3) 0 28 := by
    rw [← hW4]
    have := there_alloc_new (w := (((w.alloc (.cells #[.int .i64 s0, .int .i64 s1, .int .i64 s2, .int .i64 s3, .int .i64 s4, .int .i64 s5] 23)).alloc (.cells #[.int .i64 kind, .int .i64 a, .int .i64 b, .int .i64 c, .int .u64 hh] 42)).alloc (.cells #[.int .u64 0, .int .u64 0, .int .u64 0, .int .u64 0] 51))) (t := 53) (cs := tk0)
    simpa [tk0] using this
  have sz4 : W4.heap.size = w.heap.size + 4 := by rw [← hW4]; simp
  have B4 := hide (show Below w.heap.size w W4 from by rw [← hW4]; exact ((((Below.refl _ w).alloc (Nat.le_refl _) _).alloc (by simp) _).alloc (by simp; omega) _).alloc (by simp; omega) _)
  have r0 : W4.rangeAt w.heap.size 0 [.int .i64 s0, .int .i64 s1, .int .i64 s2, .int .i64 s3, .int .i64 s4, .int .i64 s5] := by rw [← hW4]; exact World.rangeAt_alloc (World.rangeAt_alloc (World.rangeAt_alloc (cell_range (b := 0)) _) _) _
  have r1 : W4.rangeAt (w.heap.size + 1) 0 [.int .i64 kind, .int .i64 a, .int .i64 b, .int .i64 c, .int .u64 hh] := by
    rw [← hW4]
    have := cell_range (b := 0) (w := w.alloc (.cells #[.int .i64 s0, .int .i64 s1, .int .i64 s2, .int .i64 s3, .int .i64 s4, .int .i64 s5] 23)) (t := 42) (cs := [.int .i64 kind, .int .i64 a, .int .i64 b, .int .i64 c, .int .u64 hh])
    rw [World.size_alloc] at this
    exact World.rangeAt_alloc (World.rangeAt_alloc this _) _
  have HR0 := hide r0
  have HR1 := hide r1
  have HTH := hide th
  have g := fun i v hv => r0 i v hv
  simp only [Nat.zero_add] at g
  have q0 := g 0 _ rfl
  have q1 := g 1 _ rfl
  have q2 := g 2 _ rfl
  have q3 := g 3 _ rfl
  have q4 := g 4 _ rfl
  have q5 := g 5 _ rfl
  clear g r0 r1 th
  obtain ⟨dT, hdT1, hdT2⟩ := row79
  have DT1 := hide hdT1
  have DT2 := hide hdT2
  clear hdT1 hdT2 hl
  rcases hk with g1 | ⟨g1, g2⟩
  · skip
    go_enter Try.func16, Try.ntmps16
    go_wp2_with (first
      | (go_at_call 39; refine (check_ok _ ⟨s0, s1, s2, s3, s4, s5⟩ h1 h2).mono ?_; rintro e w1 ⟨rfl, hg⟩; have HB := hide (below_of_grown_none hg W4.heap.size (Nat.le_refl _)); have t0 := rangeAt_block HR0.out (HB.out.block w.heap.size (by omega)); have t1 := rangeAt_block HR1.out (HB.out.block (w.heap.size + 1) (by omega)); have g := (fun i v hv => t0 i v hv); have g' := (fun i v hv => t1 i v hv); simp only [Nat.zero_add] at g g'; have c0 := g 0 _ rfl; have c1 := g 1 _ rfl; have c2 := g 2 _ rfl; have c3 := g 3 _ rfl; have c4 := g 4 _ rfl; have c5 := g 5 _ rfl; have d0 := g' 0 _ rfl;  have d1 := g' 1 _ rfl;  have d2 := g' 2 _ rfl;  have d3 := g' 3 _ rfl;  have d4 := g' 4 _ rfl; have HT1 := hide (there_block HTH.out (HB.out.block (w.heap.size + 3) (by omega))); clear g g' t0 t1 hg)
      | (refine wpList_store_mid (by rfl) 53 (.tmp 8) (.tmp 20) (by rfl) (w.heap.size + 3) 0 l.toArray (by rfl) (by exact HLA.out) (by simpa [hl1.out.1] using HT1.out) (by simpa [hl1.out.1] using size79) (by exact all_oneCell_toArray hl1.out.2) ?_))
    have r5 := World.rangeAt_setCells_same w1 (w.heap.size + 3) 0 l (by rw [hl1.out.1]; exact HT1.out)
    refine bodyPost_ret (v := .tuple #[.agg l.toArray, .int .i64 2]) ?res rfl ⟨rfl, ?bel⟩
    case res => exact results_ct (fn := Try.f16) (t := 8) (t' := 9) (by rfl) (by rfl) (run_loadVar_mid _ _ 0 _ l dT r5 DT1.out DT2.out (by rw [hl1.out.1]; exact size79))
    case bel => exact (B4.out.trans (HB.out.mono (by omega))).trans ((touch_setCells (w.heap.size + 3) l 0 w1).below (fun k hk => by omega) (by have := HB.out.size; omega))
  · skip
    go_enter Try.func16, Try.ntmps16
    go_wp2_with (first
      | (go_at_call 39; refine (check_ok _ ⟨s0, s1, s2, s3, s4, s5⟩ h1 h2).mono ?_; rintro e w1 ⟨rfl, hg⟩; have HB := hide (below_of_grown_none hg W4.heap.size (Nat.le_refl _)); have t0 := rangeAt_block HR0.out (HB.out.block w.heap.size (by omega)); have t1 := rangeAt_block HR1.out (HB.out.block (w.heap.size + 1) (by omega)); have g := (fun i v hv => t0 i v hv); have g' := (fun i v hv => t1 i v hv); simp only [Nat.zero_add] at g g'; have c0 := g 0 _ rfl; have c1 := g 1 _ rfl; have c2 := g 2 _ rfl; have c3 := g 3 _ rfl; have c4 := g 4 _ rfl; have c5 := g 5 _ rfl; have d0 := g' 0 _ rfl;  have d1 := g' 1 _ rfl;  have d2 := g' 2 _ rfl;  have d3 := g' 3 _ rfl;  have d4 := g' 4 _ rfl; have HT1 := hide (there_block HTH.out (HB.out.block (w.heap.size + 3) (by omega))); clear g g' t0 t1 hg)
      | (refine wpList_store_mid (by rfl) 53 (.tmp 8) (.tmp 20) (by rfl) (w.heap.size + 3) 0 l.toArray (by rfl) (by exact HLA.out) (by simpa [hl1.out.1] using HT1.out) (by simpa [hl1.out.1] using size79) (by exact all_oneCell_toArray hl1.out.2) ?_))
    have r5 := World.rangeAt_setCells_same w1 (w.heap.size + 3) 0 l (by rw [hl1.out.1]; exact HT1.out)
    refine bodyPost_ret (v := .tuple #[.agg l.toArray, .int .i64 2]) ?res rfl ⟨rfl, ?bel⟩
    case res => exact results_ct (fn := Try.f16) (t := 8) (t' := 9) (by rfl) (by rfl) (run_loadVar_mid _ _ 0 _ l dT r5 DT1.out DT2.out (by rw [hl1.out.1]; exact size79))
    case bel => exact (B4.out.trans (HB.out.mono (by omega))).trans ((touch_setCells (w.heap.size + 3) l 0 w1).below (fun k hk => by omega) (by have := HB.out.size; omega))

set_option maxHeartbeats 4000000 in
theorem rstart_shape (w : World) (s0 s1 s2 s3 s4 s5 hand kind a b c hh : Int) (h : s5 < 1 ∨ 64 < s5) :
    Calls Try.prog 16 #[.agg #[.int .i64 s0, .int .i64 s1, .int .i64 s2, .int .i64 s3, .int .i64 s4, .int .i64 s5], .int .i64 hand, .agg #[.int .i64 kind, .int .i64 a, .int .i64 b, .int .i64 c, .int .u64 hh], .agg #[.int .u64 0, .int .u64 0, .int .u64 0, .int .u64 0]] w fun e w' => e = .returned (.tuple #[.agg (tk0).toArray, .int .i64 120]) ∧ Below w.heap.size w w' := by
  obtain ⟨l, hl⟩ : ∃ l, tk0 = l := ⟨_, rfl⟩
  rw [hl]
  have hl1 := hide (show IsTk l from by rw [← hl]; exact tk0_is)
  have HLA := hide (show Value.agg #[.int .i64 0, .int .i64 0, .int .i64 0, .int .i64 0, .int .i64 0, .int .i64 0, .int .i64 0, .int .i64 0, .int .i64 0, .int .i64 0, .int .i64 0, .int .u64 0, .int .i64 0, .int .u64 0, .int .u64 0, .int .u64 0, .int .u64 0, .int .u64 0, .int .u64 0, .int .u64 0, .int .u64 0, .slice none 0 0, .bool false, .int .u64 0, .int .u64 0, .int .u64 0, .int .u64 0, .int .u64 0] = .agg l.toArray from by rw [← hl]; rfl)
  obtain ⟨W4, hW4⟩ : ∃ W4, (((w.alloc (.cells #[.int .i64 s0, .int .i64 s1, .int .i64 s2, .int .i64 s3, .int .i64 s4, .int .i64 s5] 23)).alloc (.cells #[.int .i64 kind, .int .i64 a, .int .i64 b, .int .i64 c, .int .u64 hh] 42)).alloc (.cells #[.int .u64 0, .int .u64 0, .int .u64 0, .int .u64 0] 51)).alloc (.cells #[.int .i64 0, .int .i64 0, .int .i64 0, .int .i64 0, .int .i64 0, .int .i64 0, .int .i64 0, .int .i64 0, .int .i64 0, .int .i64 0, .int .i64 0, .int .u64 0, .int .i64 0, .int .u64 0, .int .u64 0, .int .u64 0, .int .u64 0, .int .u64 0, .int .u64 0, .int .u64 0, .int .u64 0, .slice none 0 0, .bool false, .int .u64 0, .int .u64 0, .int .u64 0, .int .u64 0, .int .u64 0] 53) = W4 := ⟨_, rfl⟩
  have th : W4.there (w.heap.size + 3) 0 28 := by
    rw [← hW4]
    have := there_alloc_new (w := (((w.alloc (.cells #[.int .i64 s0, .int .i64 s1, .int .i64 s2, .int .i64 s3, .int .i64 s4, .int .i64 s5] 23)).alloc (.cells #[.int .i64 kind, .int .i64 a, .int .i64 b, .int .i64 c, .int .u64 hh] 42)).alloc (.cells #[.int .u64 0, .int .u64 0, .int .u64 0, .int .u64 0] 51))) (t := 53) (cs := tk0)
    simpa [tk0] using this
  have sz4 : W4.heap.size = w.heap.size + 4 := by rw [← hW4]; simp
  have B4 := hide (show Below w.heap.size w W4 from by rw [← hW4]; exact ((((Below.refl _ w).alloc (Nat.le_refl _) _).alloc (by simp) _).alloc (by simp; omega) _).alloc (by simp; omega) _)
  have r0 : W4.rangeAt w.heap.size 0 [.int .i64 s0, .int .i64 s1, .int .i64 s2, .int .i64 s3, .int .i64 s4, .int .i64 s5] := by rw [← hW4]; exact World.rangeAt_alloc (World.rangeAt_alloc (World.rangeAt_alloc (cell_range (b := 0)) _) _) _
  have r1 : W4.rangeAt (w.heap.size + 1) 0 [.int .i64 kind, .int .i64 a, .int .i64 b, .int .i64 c, .int .u64 hh] := by
    rw [← hW4]
    have := cell_range (b := 0) (w := w.alloc (.cells #[.int .i64 s0, .int .i64 s1, .int .i64 s2, .int .i64 s3, .int .i64 s4, .int .i64 s5] 23)) (t := 42) (cs := [.int .i64 kind, .int .i64 a, .int .i64 b, .int .i64 c, .int .u64 hh])
    rw [World.size_alloc] at this
    exact World.rangeAt_alloc (World.rangeAt_alloc this _) _
  have HR0 := hide r0
  have HR1 := hide r1
  have HTH := hide th
  have g := fun i v hv => r0 i v hv
  simp only [Nat.zero_add] at g
  have q0 := g 0 _ rfl
  have q1 := g 1 _ rfl
  have q2 := g 2 _ rfl
  have q3 := g 3 _ rfl
  have q4 := g 4 _ rfl
  have q5 := g 5 _ rfl
  clear g r0 r1 th
  obtain ⟨dT, hdT1, hdT2⟩ := row79
  have DT1 := hide hdT1
  have DT2 := hide hdT2
  clear hdT1 hdT2 hl
  · skip
    go_enter Try.func16, Try.ntmps16
    go_wp2_with (first
      | (go_at_call 39; refine (check_bad _ ⟨s0, s1, s2, s3, s4, s5⟩ h).mono ?_; rintro e w1 ⟨rfl, hg⟩; have HB := hide (below_of_grown_none hg W4.heap.size (Nat.le_refl _)); have t0 := rangeAt_block HR0.out (HB.out.block w.heap.size (by omega)); have t1 := rangeAt_block HR1.out (HB.out.block (w.heap.size + 1) (by omega)); have g := (fun i v hv => t0 i v hv); have g' := (fun i v hv => t1 i v hv); simp only [Nat.zero_add] at g g'; have c0 := g 0 _ rfl; have c1 := g 1 _ rfl; have c2 := g 2 _ rfl; have c3 := g 3 _ rfl; have c4 := g 4 _ rfl; have c5 := g 5 _ rfl; have d0 := g' 0 _ rfl;  have d1 := g' 1 _ rfl;  have d2 := g' 2 _ rfl;  have d3 := g' 3 _ rfl;  have d4 := g' 4 _ rfl; have HT1 := hide (there_block HTH.out (HB.out.block (w.heap.size + 3) (by omega))); clear g g' t0 t1 hg)
      | (refine wpList_store_mid (by rfl) 53 (.tmp 8) (.tmp 13) (by rfl) (w.heap.size + 3) 0 l.toArray (by rfl) (by exact HLA.out) (by simpa [hl1.out.1] using HT1.out) (by simpa [hl1.out.1] using size79) (by exact all_oneCell_toArray hl1.out.2) ?_))
    have r5 := World.rangeAt_setCells_same w1 (w.heap.size + 3) 0 l (by rw [hl1.out.1]; exact HT1.out)
    refine bodyPost_ret (v := .tuple #[.agg l.toArray, .int .i64 120]) ?res rfl ⟨rfl, ?bel⟩
    case res => exact results_ct (fn := Try.f16) (t := 8) (t' := 9) (by rfl) (by rfl) (run_loadVar_mid _ _ 0 _ l dT r5 DT1.out DT2.out (by rw [hl1.out.1]; exact size79))
    case bel => exact (B4.out.trans (HB.out.mono (by omega))).trans ((touch_setCells (w.heap.size + 3) l 0 w1).below (fun k hk => by omega) (by have := HB.out.size; omega))

end Pile
end Go.Proofs.Ytgfbohmehhhbeaa

/-
  Regions that draw their order, with one call that turns the world: told into a variable that the region makes (SG), or into one of two variables made ahead (SM). What else stands in the world is any invariant.
-/
namespace Go.Proofs.Ytgfbohmehhhbeaa
open Go.RowKit
set_option linter.unusedVariables false
set_option linter.unusedSimpArgs false
namespace RG

/-- c: the call is done; al: the variable is made; st: it is written. -/
structure SG (I : Bool → World → Prop) (X : Stp) (w0 : World) (c al st : Bool) (v : Value) (w : World) : Prop where
  inv : I c w
  siz : w0.heap.size ≤ w.heap.size
  own : al = true → ∃ q, v = .pointer (some ⟨q, 0, none⟩) ∧ w0.heap.size ≤ q ∧ q < w.heap.size ∧ (st = false → w.rowIs q 71 6 zcell) ∧ (st = true → w.rangeAt q 0 X.cells)
  dep : st = true → c = true ∧ al = true

section
variable {I : Bool → World → Prop} {X : Stp} {w0 w w' : World} {c al st : Bool} {v : Value}
theorem SG.start (h : I false { w0 with drawn := w0.drawn + 1 }) : SG I X w0 false false false v { w0 with drawn := w0.drawn + 1 } :=
  ⟨h, Nat.le_refl _, fun h => (by cases h), fun h => (by cases h)⟩
theorem SG.make (hI : ∀ c w w', Below w0.heap.size w w' → w0.heap.size ≤ w.heap.size → I c w → I c w') (h : SG I X w0 c al st v w) (hal : al = false) :
    SG I X w0 c true st (.pointer (some ⟨w.heap.size, 0, none⟩)) (w.alloc (.cells [Value.int .i64 0, .int .i64 0, .int .i64 0, .int .u64 0, .int .u64 0, .bool false].toArray 71)) := by
  have hst : st = false := by
    cases hs : st with
    | false => rfl
    | true => have := (h.dep hs).2; rw [hal] at this; cases this
  subst hst
  exact ⟨hI _ _ _ ((Below.refl _ w).alloc h.siz _) h.siz h.inv, by simp; have := h.siz; omega, fun _ => ⟨_, rfl, h.siz, by simp, fun _ => row0 w, fun h => (by cases h)⟩, fun h => (by cases h)⟩
theorem SG.act {g : Nat} (h : SG I X w0 c al st v w) (hc : c = false) (hg0 : g < w0.heap.size) (hi : I true w') (hg : w.grownBy w' (some g)) : SG I X w0 true al st v w' := by
  have hst : st = false := by
    cases hs : st with
    | false => rfl
    | true => have := (h.dep hs).1; rw [hc] at this; cases this
  subst hst
  refine ⟨hi, Nat.le_trans h.siz hg.size, fun ha => ?_, fun h => (by cases h)⟩
  obtain ⟨q, e, hq, hq2, hrow, _⟩ := h.own ha
  exact ⟨q, e, hq, Nat.lt_of_lt_of_le hq2 hg.size, fun _ => (hrow rfl).of_block (hg.block q hq2 (by simp; omega)), fun h => (by cases h)⟩
theorem SG.put (hI : ∀ c w w', Below w0.heap.size w w' → w0.heap.size ≤ w.heap.size → I c w → I c w') (h : SG I X w0 c al st v w) (hc : c = true) (ha : al = true) (hst : st = false) :
    ∃ q, v = .pointer (some ⟨q, 0, none⟩) ∧ w.there q 0 X.cells.length ∧ SG I X w0 c al true v (w.setCells q 0 X.cells) := by
  obtain ⟨q, e, hq, hq2, hrow, _⟩ := h.own ha
  have ht : w.there q 0 X.cells.length := rowIs.there (hrow hst) (by simp [Stp.cells])
  have tt := touch_setCells q X.cells 0 w
  have hs := h.siz
  exact ⟨q, e, ht, hI _ _ _ ⟨tt.os, tt.tape, tt.output, tt.size, fun k hk => tt.block k (by omega) (by omega)⟩ h.siz h.inv, Nat.le_trans h.siz tt.size, fun _ => ⟨q, e, hq, Nat.lt_of_lt_of_le hq2 tt.size, fun h => (by cases h), fun _ => World.rangeAt_setCells_same w q 0 X.cells ht⟩, fun _ => ⟨hc, ha⟩⟩
theorem SG.skip {L : Nat → Bool} {i kc ia is : Nat} (h1 : kc ≠ i) (h2 : ia ≠ i) (h3 : is ≠ i) (h : SG I X w0 (L kc) (L ia) (L is) v w) : SG I X w0 (upd L i true kc) (upd L i true ia) (upd L i true is) v w := by
  rwa [upd_other _ _ h1, upd_other _ _ h2, upd_other _ _ h3]
theorem SG.calls {fd : FuncId} {args : Array Value} {g kc ia is : Nat} (hc : ∀ w, I false w → Calls Try.prog fd args w fun e w' => e = .returned X.val ∧ I true w' ∧ w.grownBy w' (some g)) (hg0 : g < w0.heap.size) (n1 : ia ≠ kc) (n2 : is ≠ kc) :
    ∀ (L : Nat → Bool) v w, SG I X w0 (L kc) (L ia) (L is) v w → L kc = false → Calls Try.prog fd args w fun e w' => e = .returned X.val ∧ SG I X w0 (upd L kc true kc) (upd L kc true ia) (upd L kc true is) v w' := by
  intro L v w h hL
  have hi := h.inv
  rw [hL] at hi
  refine (hc w hi).mono ?_
  rintro e w' ⟨rfl, hi', hg⟩
  rw [upd_same, upd_other _ _ n1, upd_other _ _ n2]
  exact ⟨rfl, h.act hL hg0 hi' hg⟩
end

/-- c: the call is done; sc, se: the two variables are written. -/
structure SM (I : Bool → World → Prop) (C E : Nat) (lt : List Value) (X : Stp) (c sc se : Bool) (w : World) : Prop where
  inv : I c w
  tC : w.there C 0 lt.length
  tE : w.there E 0 X.cells.length
  stoC : sc = true → w.rangeAt C 0 lt
  stoE : se = true → w.rangeAt E 0 X.cells
  dep : se = true → c = true
section
variable {I : Bool → World → Prop} {C E : Nat} {lt : List Value} {X : Stp} {w0 w w' : World} {c sc se : Bool}
theorem SM.start (h : I false w) (hC : w.there C 0 lt.length) (hE : w.there E 0 X.cells.length) : SM I C E lt X false false false w :=
  ⟨h, hC, hE, fun h => (by cases h), fun h => (by cases h), fun h => (by cases h)⟩
theorem SM.skip {L : Nat → Bool} {i kc iC iE : Nat} (h1 : kc ≠ i) (h2 : iC ≠ i) (h3 : iE ≠ i) (h : SM I C E lt X (L kc) (L iC) (L iE) w) : SM I C E lt X (upd L i true kc) (upd L i true iC) (upd L i true iE) w := by
  rwa [upd_other _ _ h1, upd_other _ _ h2, upd_other _ _ h3]
theorem SM.calls {fd : FuncId} {args : Array Value} {kc iC iE : Nat} (hc : ∀ w, I false w → Calls Try.prog fd args w fun e w' => e = .returned X.val ∧ I true w' ∧ w'.heap[C]? = w.heap[C]? ∧ w'.heap[E]? = w.heap[E]?) (n1 : iC ≠ kc) (n2 : iE ≠ kc) :
    ∀ (L : Nat → Bool) (v : Value) w, SM I C E lt X (L kc) (L iC) (L iE) w → L kc = false → Calls Try.prog fd args w fun e w' => e = .returned X.val ∧ SM I C E lt X (upd L kc true kc) (upd L kc true iC) (upd L kc true iE) w' := by
  intro L v w h hL
  have hi := h.inv
  rw [hL] at hi
  refine (hc w hi).mono ?_
  rintro e w' ⟨rfl, hi', hC, hE⟩
  rw [upd_same, upd_other _ _ n1, upd_other _ _ n2]
  exact ⟨rfl, hi', there_block h.tC hC, there_block h.tE hE, fun h1 => rangeAt_block (h.stoC h1) hC, fun h1 => rangeAt_block (h.stoE h1) hE, fun _ => rfl⟩
theorem SM.putC (hI : ∀ c w w', Touch w w' (fun k => k = C ∨ k = E) → I c w → I c w') (hne : C ≠ E) (h : SM I C E lt X c sc se w) : w.there C 0 lt.length ∧ SM I C E lt X c true se (w.setCells C 0 lt) := by
  have tt := touch_setCells C lt 0 w
  exact ⟨h.tC, hI _ _ _ (tt.mono (fun k _ h => .inl h)) h.inv, World.there_setCells h.tC _ _ _, World.there_setCells h.tE _ _ _, fun _ => World.rangeAt_setCells_same w C 0 lt h.tC, fun h1 => World.rangeAt_setCells_apart (h.stoE h1) _ _ _ (.inl (Ne.symm hne)), h.dep⟩
theorem SM.putE (hI : ∀ c w w', Touch w w' (fun k => k = C ∨ k = E) → I c w → I c w') (hne : C ≠ E) (h : SM I C E lt X c sc se w) (hc : c = true) : w.there E 0 X.cells.length ∧ SM I C E lt X c sc true (w.setCells E 0 X.cells) := by
  have tt := touch_setCells E X.cells 0 w
  exact ⟨h.tE, hI _ _ _ (tt.mono (fun k _ h => .inr h)) h.inv, World.there_setCells h.tC _ _ _, World.there_setCells h.tE _ _ _, fun h1 => World.rangeAt_setCells_apart (h.stoC h1) _ _ _ (.inl hne), fun _ => World.rangeAt_setCells_same w E 0 X.cells h.tE, fun _ => hc⟩
end
end RG

section
variable {ev : Operand → Value} {o : Oper} {w : World}
theorem ex_fieldo {x : Operand} {b k q q' : Nat} {ty : TypeId} (ho : o.op = .fieldAddr ty x k) (hx : ev x = .pointer (some ⟨b, q', none⟩)) (hf : (Instr.fieldAt ty (.pointer (some ⟨b, q', none⟩)) k).run Try.prog w = .ok (.pointer (some ⟨b, q, none⟩)) w) : (execOp ev o).run Try.prog w = .ok (.value (.pointer (some ⟨b, q, none⟩))) w := by
  simp [execOp, ho, hx, hf]
theorem ex_r0 {x y : Operand} {b : Nat} (ho : o.op = .indexAddr 47 x y) (hx : ev x = .pointer (some ⟨b, 13, none⟩)) (hy : ev y = .int .i64 0) : (execOp ev o).run Try.prog w = .ok (.value (.pointer (some ⟨b, 13, none⟩))) w := by
  simp [execOp, ho, hx, hy, go_sem]
theorem ex_r1 {x y : Operand} {b : Nat} (ho : o.op = .indexAddr 47 x y) (hx : ev x = .pointer (some ⟨b, 13, none⟩)) (hy : ev y = .int .i64 1) : (execOp ev o).run Try.prog w = .ok (.value (.pointer (some ⟨b, 14, none⟩))) w := by
  simp [execOp, ho, hx, hy, go_sem]
theorem ex_r2 {x y : Operand} {b : Nat} (ho : o.op = .indexAddr 47 x y) (hx : ev x = .pointer (some ⟨b, 13, none⟩)) (hy : ev y = .int .i64 2) : (execOp ev o).run Try.prog w = .ok (.value (.pointer (some ⟨b, 15, none⟩))) w := by
  simp [execOp, ho, hx, hy, go_sem]
theorem ex_r3 {x y : Operand} {b : Nat} (ho : o.op = .indexAddr 47 x y) (hx : ev x = .pointer (some ⟨b, 13, none⟩)) (hy : ev y = .int .i64 3) : (execOp ev o).run Try.prog w = .ok (.value (.pointer (some ⟨b, 16, none⟩))) w := by
  simp [execOp, ho, hx, hy, go_sem]
theorem fieldK1 (w : World) (b : Nat) : (Instr.fieldAt 53 (.pointer (some ⟨b, 0, none⟩)) 1).run Try.prog w = .ok (.pointer (some ⟨b, 6, none⟩)) w := by simp [go_sem]
theorem fieldK2 (w : World) (b : Nat) : (Instr.fieldAt 53 (.pointer (some ⟨b, 0, none⟩)) 2).run Try.prog w = .ok (.pointer (some ⟨b, 7, none⟩)) w := by simp [go_sem]
theorem fieldK3 (w : World) (b : Nat) : (Instr.fieldAt 53 (.pointer (some ⟨b, 0, none⟩)) 3).run Try.prog w = .ok (.pointer (some ⟨b, 12, none⟩)) w := by simp [go_sem]
theorem fieldK4 (w : World) (b : Nat) : (Instr.fieldAt 53 (.pointer (some ⟨b, 0, none⟩)) 4).run Try.prog w = .ok (.pointer (some ⟨b, 13, none⟩)) w := by simp [go_sem]
theorem fieldJ4 (w : World) (b : Nat) : (Instr.fieldAt 42 (.pointer (some ⟨b, 7, none⟩)) 4).run Try.prog w = .ok (.pointer (some ⟨b, 11, none⟩)) w := by simp [go_sem]
theorem fieldS5 (w : World) (b : Nat) : (Instr.fieldAt 71 (.pointer (some ⟨b, 0, none⟩)) 5).run Try.prog w = .ok (.pointer (some ⟨b, 5, none⟩)) w := by simp [go_sem]
theorem agg_i (w : World) : (isAgg 3).run Try.prog w = .ok false w := by simp [go_sem]
theorem agg_u64 (w : World) : (isAgg 40).run Try.prog w = .ok false w := by simp [go_sem]
theorem agg_b (w : World) : (isAgg 4).run Try.prog w = .ok false w := by simp [go_sem]
theorem callRDo' (args : Array Value) (w : World) : (callFunc 68 args).run Try.prog w = .ok (.enter 68 args) w := by simp [go_sem]
theorem ex_equ {x y : Operand} {a b : Int} (ho : o.op = .binOp .eql 40 x y 40) (hx : ev x = .int .u64 a) (hy : ev y = .int .u64 b) : (execOp ev o).run Try.prog w = .ok (.value (.bool (a == b))) w := by
  simp [execOp, ho, hx, hy, go_sem]
end
end Go.Proofs.Ytgfbohmehhhbeaa
