/-
  What the reference's run tells.
-/
import Derived.Test.YtdbiphibdaghkaaRGood
import Derived.Test.YtdbiphibdaghkaaRDone3
namespace Go.Proofs.Ytdbiphibdaghkaa
open Go.RowKit
set_option linter.unusedVariables false
set_option linter.unusedSimpArgs false
set_option linter.unnecessarySimpa false
set_option maxRecDepth 20000
open Beg

variable {K : Kd} {rep : List Value → K.σ → Prop} {P : Par} {blk : Rl → Nat} {c : Rl → Option Row} {st : St K} {un : Nat → Bool} {capw : Nat} {sv : Value} {w : World} {base B : Nat} {aoh aos : Option Addr} {caph caps : Nat} {sh : Shp} {la : Int}

theorem pick0 (n : Nat) (g : Nat → Bool) : decide (pickOf n g 0 < 0) = decide (cnt g n = 0) := by
  rcases pickOf_ok (n := n) (g := g) 0 with ⟨h1, h2⟩ | ⟨i, h1, h2, h3⟩
  · rw [h1, h2]; rfl
  · have := cnt_pos_of h2 h3
    rw [h1]
    simp [this]

set_option maxHeartbeats 4000000 in
theorem rtold_any (G : RGood K rep P blk c st un capw sv) (H : Has w base blk c) (SH : SeesH w B aoh P.nh P.jn P.jb) (hB : B ≤ w.heap.size) :
    Calls Try.prog 40 #[rv sh P blk capw (.slice aoh P.nh caph) sv la] w fun e w' => e = .returned (.tuple #[.agg #[sv, .slice (some ⟨blk .words, 0, none⟩) P.n capw, .bool (decide (cnt (st.going P) P.nh = 0))], sl (blk .answers) P.nh]) ∧ Below w.heap.size w w' := by
  have hnh := G.hands
  obtain ⟨sa, sc, hsv⟩ := G.steps.isSlice'
  subst hsv
  have GO := hide (fun (w' : World) (hb : Below w.heap.size w w') => rgoing_any (sh := sh) (la := la) (caph := caph) G (H.below hb) (SH.below hb hB) (Nat.le_trans hB hb.size))
  obtain ⟨en, hen⟩ : ∃ en, decide (cnt (st.going P) P.nh = 0) = en := ⟨_, rfl⟩
  have hp0 := pick0 P.nh (st.going P)
  rw [hen] at hp0 ⊢
  obtain ⟨pk, hpk⟩ : ∃ pk, pickOf P.nh (st.going P) 0 = pk := ⟨_, rfl⟩
  rw [hpk] at hp0
  have HPK := hide hpk
  have HP0 := hide hp0
  clear G H SH hen hpk hp0
  obtain ⟨s0, s1, s2, s3, s4, s5⟩ := sh
  unfold rv at GO ⊢
  simp only [runCells, sl] at GO ⊢
  obtain ⟨W2, hW2⟩ : ∃ W2, (w.alloc (.cells #[.int .i64 s0, .int .i64 s1, .int .i64 s2, .int .i64 s3, .int .i64 s4, .int .i64 s5, .slice (some ⟨blk .words, 0, none⟩) P.n capw, .slice aoh P.nh caph, .slice (some ⟨blk .tasks, 0, none⟩) P.nh P.nh, .slice (some ⟨blk .going, 0, none⟩) P.nh P.nh, .slice (some ⟨blk .run, 0, none⟩) P.nh P.nh, .slice (some ⟨blk .mem, 0, none⟩) P.nh P.nh, .slice sa st.k sc, .slice (some ⟨blk .answers, 0, none⟩) P.nh P.nh, .int .i64 la] 90)).alloc (.cells #[.slice none 0 0, .slice none 0 0, .bool false] 28) = W2 := ⟨_, rfl⟩
  have B2 : Below w.heap.size w W2 := by rw [← hW2]; exact ((Below.refl _ w).alloc (Nat.le_refl _) _).alloc (by simp) _
  have sz2 : W2.heap.size = w.heap.size + 2 := by rw [← hW2]; simp
  have HB2 := hide B2
  have HC := hide (show (∀ w', Below W2.heap.size W2 w' → w'.cell? ⟨w.heap.size, 6, none⟩ = some (.slice (some ⟨blk .words, 0, none⟩) P.n capw) ∧ w'.cell? ⟨w.heap.size, 12, none⟩ = some (.slice sa st.k sc) ∧ w'.cell? ⟨w.heap.size, 13, none⟩ = some (.slice (some ⟨blk .answers, 0, none⟩) P.nh P.nh) ∧ (w'.cell? ⟨w.heap.size + 1, 0, none⟩ = some (.slice none 0 0) ∧ w'.cell? ⟨w.heap.size + 1, 1, none⟩ = some (.slice none 0 0) ∧ w'.cell? ⟨w.heap.size + 1, 2, none⟩ = some (.bool false)) ∧ (w'.frozen? ⟨w.heap.size + 1, 0, none⟩ = false ∧ w'.frozen? ⟨w.heap.size + 1, 1, none⟩ = false ∧ w'.frozen? ⟨w.heap.size + 1, 2, none⟩ = false)) from fun w' hb => by
    have q := fun (i : Nat) => hb.cell (p := ⟨w.heap.size, i, none⟩) (by show w.heap.size < _; omega)
    have q1 := fun (i : Nat) => hb.cell (p := ⟨w.heap.size + 1, i, none⟩) (by show w.heap.size + 1 < _; omega)
    have q2 := fun (i : Nat) => hb.frozen (p := ⟨w.heap.size + 1, i, none⟩) (by show w.heap.size + 1 < _; omega)
    rw [q 6, q 12, q 13, q1 0, q1 1, q1 2, q2 0, q2 1, q2 2, ← hW2]
    simp)
  clear B2
  go_enter Try.func40, Try.ntmps40
  have l15 : ∀ i v, ([.int .i64 s0, .int .i64 s1, .int .i64 s2, .int .i64 s3, .int .i64 s4, .int .i64 s5, .slice (some ⟨blk .words, 0, none⟩) P.n capw, .slice aoh P.nh caph, .slice (some ⟨blk .tasks, 0, none⟩) P.nh P.nh, .slice (some ⟨blk .going, 0, none⟩) P.nh P.nh, .slice (some ⟨blk .run, 0, none⟩) P.nh P.nh, .slice (some ⟨blk .mem, 0, none⟩) P.nh P.nh, .slice sa st.k sc, .slice (some ⟨blk .answers, 0, none⟩) P.nh P.nh, .int .i64 la] : List Value)[i]? = some v → W2.cell? ⟨w.heap.size, i, none⟩ = some v := fun i v hv => by
    rw [← hW2]
    simpa using hv
  have HL15 := hide l15
  obtain ⟨dR, hdR1, hdR2⟩ := row90
  have DR1 := hide hdR1
  have DR2 := hide hdR2
  clear l15 hdR1 hdR2
  go_wp2_with (first
    | (refine wpList_load_mid (by rfl) 90 (.tmp 1) (by rfl) w.heap.size 0 (by rfl) [.int .i64 s0, .int .i64 s1, .int .i64 s2, .int .i64 s3, .int .i64 s4, .int .i64 s5, .slice (some ⟨blk .words, 0, none⟩) P.n capw, .slice aoh P.nh caph, .slice (some ⟨blk .tasks, 0, none⟩) P.nh P.nh, .slice (some ⟨blk .going, 0, none⟩) P.nh P.nh, .slice (some ⟨blk .run, 0, none⟩) P.nh P.nh, .slice (some ⟨blk .mem, 0, none⟩) P.nh P.nh, .slice sa st.k sc, .slice (some ⟨blk .answers, 0, none⟩) P.nh P.nh, .int .i64 la] dR (by intro i v hv; rw [Nat.zero_add]; exact HL15.out i v hv) (by exact DR1.out) (by exact DR2.out) (by exact size90) ?_)
    | (go_at_call 65; refine (GO.out _ HB2.out).mono ?_; rintro e w3 ⟨g, rfl, hsb, hb3⟩; have HSB := hide hsb; have HB3 := hide hb3; have sz3 := hb3.size; have hc := HC.out _ hb3; obtain ⟨z6, z12, z13, ⟨y0, y1, y2⟩, f0, f1, f2⟩ := hc; clear hsb hb3)
    | (go_at_call 64; refine (rpick_any HSB.out (by omega) 0).mono ?_; rintro e w4 ⟨rfl, hw4⟩; obtain rfl := hw4.symm; rw [HPK.out]))
  have hp0 := HP0.out
  go_region_held (fun w' => w'.cell? ⟨w.heap.size, 6, none⟩ = some (.slice (some ⟨blk .words, 0, none⟩) P.n capw) ∧ w'.cell? ⟨w.heap.size, 12, none⟩ = some (.slice sa st.k sc) ∧ w'.cell? ⟨w.heap.size, 13, none⟩ = some (.slice (some ⟨blk .answers, 0, none⟩) P.nh P.nh)) (go_keep) (fail)
  all_goals go_wp2_with fail
  all_goals go_light
  all_goals
    refine bodyPost_ret (v := .tuple #[.agg #[.slice sa st.k sc, .slice (some ⟨blk .words, 0, none⟩) P.n capw, .bool en], .slice (some ⟨blk .answers, 0, none⟩) P.nh P.nh]) ?res rfl ⟨rfl, ((((HB2.out.trans (HB3.out.mono (by omega))).setCell (by simp) _).setCell (by simp) _).setCell (by simp) _).drew⟩
    case res => simp [results, Try.results40, go_sem, *]
end Go.Proofs.Ytdbiphibdaghkaa
