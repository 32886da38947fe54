/-
  Lemmas: RGood.
-/
import Derived.Test.YtchhkoalibapiaaTp08
import Derived.Test.YtchhkoalibapiaaTp06
import Derived.Test.YtchhkoalibapiaaTp05
import Derived.Deep.RegionHeld
import Derived.BigRegion
/-
  The reference's run under way: how it lies in memory, as the state tells it; which hands go on, and whose turn it is.
-/
namespace Go.Proofs.Ytchhkoalibapiaa
open Go.RowKit
set_option linter.unusedVariables false
set_option linter.unusedSimpArgs false
set_option maxRecDepth 20000
open Beg

/-- The 28 cells of a reference's task. -/
def IsTk (cs : List Value) : Prop := cs.length = 28 ∧ ∀ v ∈ cs, v.oneCell' = true

structure RGood (K : Kd) (rep : List Value → K.σ → Prop) (P : Par) (blk : Rl → Nat) (c : Rl → Option Row) (st : St K) (un : Nat → Bool) (capw : Nat) (sv : Value) : Prop where
  words : ∃ F, c .words = some ⟨55, capw, F⟩ ∧ P.n ≤ capw ∧ capw ≤ maxLen ∧ ∀ i, i < P.n → F i = .int .u64 (st.f i)
  word : ∀ i, i < P.n → 0 ≤ st.f i ∧ st.f i ≤ 18446744073709551615
  tasks : ∃ T, c .tasks = some ⟨84, P.nh * 28, T⟩ ∧ ∀ h, h < P.nh → un h = true → ∃ cs, IsTk cs ∧ (∀ i u, cs[i]? = some u → T (h * 28 + i) = u) ∧ rep cs (st.cur h)
  under : ∃ U, c .going = some ⟨4, P.nh, U⟩ ∧ ∀ h, h < P.nh → U h = .bool (un h)
  begun : ∃ Bf, c .run = some ⟨3, P.nh, Bf⟩ ∧ ∀ h, h < P.nh → Bf h = .int .i64 ((st.done h + if un h = true then 1 else 0 : Nat) : Int)
  kept : ∃ Kf, c .mem = some ⟨82, P.nh * 4, Kf⟩ ∧ ∀ i, i < P.nh * 4 → Kf i = .int .u64 0
  answers : ∃ A, c .answers = some ⟨63, P.nh, A⟩ ∧ ∀ h, h < P.nh → Grows blk c (.arow h) 65 2 (st.done h) (ansCells (st.ans h) (st.done h)) (A h)
  steps : Grows blk c .steps 57 6 st.k (stepCells st.s st.k) sv
  doneLe : ∀ h, h < P.nh → st.done h ≤ P.jn h
  unLt : ∀ h, h < P.nh → un h = true → st.done h < P.jn h
  fresh : ∀ h, h < P.nh → un h = false → st.done h < P.jn h → st.cur h = K.init h (P.jb h (st.done h))
  jobs : ∀ h, h < P.nh → P.jn h ≤ 256
  hands : P.nh ≤ 8
  jwf : ∀ h, h < P.nh → ∀ j, j < P.jn h → (P.jb h j).wf
  lastOk : -1 ≤ st.last ∧ st.last < P.nh

/-- The run's value, in its state. -/
def rv (sh : Shp) (P : Par) (blk : Rl → Nat) (capw : Nat) (vh sv : Value) (la : Int) : Value :=
  .agg (runCells sh (.slice (some ⟨blk .words, 0, none⟩) P.n capw) vh (sl (blk .tasks) P.nh) (sl (blk .going) P.nh) (sl (blk .run) P.nh) (sl (blk .mem) P.nh) sv (sl (blk .answers) P.nh) la).toArray

theorem Grows.isSlice' {blk : Rl → Nat} {c : Rl → Option Row} {r : Rl} {e : TypeId} {sz k : Nat} {xs : List Value} {v : Value} (h : Grows blk c r e sz k xs v) : ∃ ao cap, v = .slice ao k cap := by
  rcases h with ⟨rfl, rfl, _⟩ | ⟨cap, F, rfl, _⟩
  · exact ⟨_, _, rfl⟩
  · exact ⟨_, _, rfl⟩

variable {K : Kd} {rep : List Value → K.σ → Prop} {P : Par} {blk : Rl → Nat} {c : Rl → Option Row} {st : St K} {un : Nat → Bool} {capw : Nat} {sv : Value} {w : World} {base B : Nat} {aoh aos : Option Addr} {caph caps : Nat} {sh : Shp} {la : Int}

theorem RGood.going_eq (G : RGood K rep P blk c st un capw sv) {h : Nat} (hh : h < P.nh) : st.going P h = (un h || decide ((st.done h + if un h = true then 1 else 0) < P.jn h)) := by
  unfold St.going
  cases hu : un h with
  | true => simpa using G.unLt h hh hu
  | false => simp

theorem rowIs_bools (w : World) (n : Nat) : (w.alloc (.cells (madeCells #[.bool false] n) 4)).rowIs w.heap.size 4 n (fun _ => .bool false) := World.rowIs_made w _ n 4

set_option maxHeartbeats 4000000 in
theorem rgoing_any (G : RGood K rep P blk c st un capw sv) (H : Has w base blk c) (SH : SeesH w B aoh P.nh P.jn P.jb) (hB : B ≤ w.heap.size) :
    Calls Try.prog 39 #[rv sh P blk capw (.slice aoh P.nh caph) sv la] w fun e w' => ∃ g, e = .returned (.slice (some ⟨g, 0, none⟩) P.nh P.nh) ∧ SeesB w' w'.heap.size (some ⟨g, 0, none⟩) P.nh (st.going P) ∧ Below w.heap.size w w' := by
  obtain ⟨s0, s1, s2, s3, s4, s5⟩ := sh
  obtain ⟨sa, sc, rfl⟩ := G.steps.isSlice'
  obtain ⟨U, eU, hU⟩ := G.under
  obtain ⟨Bf, eB, hBf⟩ := G.begun
  have hnh := G.hands
  have GE := hide (fun h hh => G.going_eq (h := h) hh)
  have hD := hide G.doneLe
  have hJ := hide G.jobs
  have hUR := hide (H.row _ _ eU)
  have hBR := hide (H.row _ _ eB)
  have lu := H.lt eU
  have lb := H.lt eB
  have HU := hide hU
  have HB := hide hBf
  obtain ⟨bu, hbu⟩ : ∃ b, blk .going = b := ⟨_, rfl⟩
  obtain ⟨bb, hbb⟩ : ∃ b, blk .run = b := ⟨_, rfl⟩
  have SHH := hide SH
  unfold rv
  simp only [runCells, sl]
  rw [hbu] at hUR lu
  rw [hbb] at hBR lb
  rw [hbu, hbb]
  clear G H hU hBf SH
  have hmk := run_make_z (P := Try.prog) 72 4 _ 1 1 Try.underlying72 info4r P.nh (by omega) (by omega)
  simp only [Nat.mul_one] at hmk
  go_enter Try.func39, Try.ntmps39
  go_wp2_with fail
  obtain ⟨w1, hw1⟩ : ∃ w1, (w.alloc (.cells #[.int .i64 s0, .int .i64 s1, .int .i64 s2, .int .i64 s3, .int .i64 s4, .int .i64 s5, .slice (some ⟨blk .words, 0, none⟩) P.n capw, .slice aoh P.nh caph, .slice (some ⟨blk .tasks, 0, none⟩) P.nh P.nh, .slice (some ⟨bu, 0, none⟩) P.nh P.nh, .slice (some ⟨bb, 0, none⟩) P.nh P.nh, .slice (some ⟨blk .mem, 0, none⟩) P.nh P.nh, .slice sa st.k sc, .slice (some ⟨blk .answers, 0, none⟩) P.nh P.nh, .int .i64 la] 78)).alloc (.cells (madeCells #[.bool false] P.nh) 4) = w1 := ⟨_, rfl⟩
  have hsz : w1.heap.size = w.heap.size + 2 := by rw [← hw1]; simp
  have b7 : w1.cell? ⟨w.heap.size, 7, none⟩ = some (.slice aoh P.nh caph) := by rw [← hw1]; simp
  have b9 : w1.cell? ⟨w.heap.size, 9, none⟩ = some (.slice (some ⟨bu, 0, none⟩) P.nh P.nh) := by rw [← hw1]; simp
  have b10 : w1.cell? ⟨w.heap.size, 10, none⟩ = some (.slice (some ⟨bb, 0, none⟩) P.nh P.nh) := by rw [← hw1]; simp
  have R1 : w1.rowIs (w.heap.size + 1) 4 P.nh (fun _ => .bool false) := by
    rw [← hw1]
    have := World.rowIs_made (w.alloc (.cells #[.int .i64 s0, .int .i64 s1, .int .i64 s2, .int .i64 s3, .int .i64 s4, .int .i64 s5, .slice (some ⟨blk .words, 0, none⟩) P.n capw, .slice aoh P.nh caph, .slice (some ⟨blk .tasks, 0, none⟩) P.nh P.nh, .slice (some ⟨bu, 0, none⟩) P.nh P.nh, .slice (some ⟨bb, 0, none⟩) P.nh P.nh, .slice (some ⟨blk .mem, 0, none⟩) P.nh P.nh, .slice sa st.k sc, .slice (some ⟨blk .answers, 0, none⟩) P.nh P.nh, .int .i64 la] 78)) (.bool false) P.nh 4
    simpa using this
  have bel : Below w.heap.size w w1 := by rw [← hw1]; exact ((Below.refl _ w).alloc (Nat.le_refl _) _).alloc (by simp) _
  rw [hw1]
  have HR1 := hide R1
  have HBEL := hide bel
  clear hw1 R1 bel
  go_loopw [4] (fun i wr => ∃ (k : Nat) (F : Nat → Value), k ≤ P.nh ∧ i = .int .i64 k ∧ wr.rowIs (w.heap.size + 1) 4 P.nh F ∧ (∀ j, j < k → F j = .bool (st.going P j)) ∧ w1.grownBy wr (some (w.heap.size + 1))) (fun i _ => P.nh - (intOf i).toNat)
  case atStart => exact ⟨0, _, Nat.zero_le _, rfl, HR1.out, fun j hj => absurd hj (Nat.not_lt_zero _), grown_refl _ _⟩
  case round =>
    obtain ⟨k, F, hk, rfl, hr, hF, hg⟩ := hrel
    have HR := hide hr
    have HF := hide hF
    have HG := hide hg
    have old : ∀ (p : Addr), p.block < w1.heap.size → p.block ≠ w.heap.size + 1 → wr.cell? p = w1.cell? p := fun p hp hne => World.cell?_of_block (hg.block p.block hp (by simpa using hne))
    have c7 : wr.cell? ⟨w.heap.size, 7, none⟩ = some (.slice aoh P.nh caph) := (old ⟨w.heap.size, 7, none⟩ (by show w.heap.size < _; omega) (by show w.heap.size ≠ _; omega)).trans b7
    have c9 : wr.cell? ⟨w.heap.size, 9, none⟩ = some (.slice (some ⟨bu, 0, none⟩) P.nh P.nh) := (old ⟨w.heap.size, 9, none⟩ (by show w.heap.size < _; omega) (by show w.heap.size ≠ _; omega)).trans b9
    have c10 : wr.cell? ⟨w.heap.size, 10, none⟩ = some (.slice (some ⟨bb, 0, none⟩) P.nh P.nh) := (old ⟨w.heap.size, 10, none⟩ (by show w.heap.size < _; omega) (by show w.heap.size ≠ _; omega)).trans b10
    by_cases hlt : k < P.nh
    · have hkn : (k : Int) < (P.nh : Int) := by omega
      have hk0 : (0 : Int) ≤ (k : Int) := by omega
      have cu : wr.cell? ⟨bu, k, none⟩ = some (.bool (un k)) := by
        rw [old ⟨bu, k, none⟩ (by show bu < _; omega) (by show bu ≠ _; omega), HBEL.out.cell (p := ⟨bu, k, none⟩) lu, hUR.out.cell hlt, HU.out k hlt]
      have hge := GE.out k hlt
      have cr := HR.out.cell hlt
      have cf := HR.out.frozen k
      obtain ⟨b, off, ao', cap', rfl, hbl, hcc, _⟩ := SHH.out k hlt
      have ch : wr.cell? ⟨b, off + k, none⟩ = some (.slice ao' (P.jn k) cap') := by
        rw [old ⟨b, off + k, none⟩ (by show b < _; omega) (by show b ≠ _; omega), HBEL.out.cell (p := ⟨b, off + k, none⟩) (by show b < _; omega)]; exact hcc
      cases hu : un k with
      | true =>
        rw [hu] at cu hge
        simp only [Bool.true_or] at hge
        clear hg old hr hF
        go_wp2_with fail
        go_region
        go_wp2_with fail
        go_roundw
        case rel => exact ⟨k + 1, _, by omega, by go_num, (HR.out.drew.set k _), fun j hj => by (split; (subst_vars; rw [hge]); exact HF.out j (by omega)), grown_setCell (grown_drew HG.out) _ (.inl rfl) _⟩
        case measure => simp [intOf]; omega
      | false =>
        rw [hu] at cu hge
        have cb : wr.cell? ⟨bb, k, none⟩ = some (.int .i64 (st.done k)) := by
          rw [old ⟨bb, k, none⟩ (by show bb < _; omega) (by show bb ≠ _; omega), HBEL.out.cell (p := ⟨bb, k, none⟩) lb, hBR.out.cell hlt, HB.out k hlt, hu]; simp
        simp only [Bool.false_or, Bool.false_eq_true, if_false, Nat.add_zero] at hge
        have hjk := hJ.out k hlt
        have hdk := hD.out k hlt
        clear hg old hr hF
        go_wp2_with fail
        go_region
        go_wp2_with fail
        go_roundw
        case rel => exact ⟨k + 1, _, by omega, by go_num, (HR.out.drew.set k _), fun j hj => by (split; (subst_vars; rw [hge]); exact HF.out j (by omega)), grown_setCell (grown_drew HG.out) _ (.inl rfl) _⟩
        case measure => simp [intOf]; omega
    · obtain rfl : k = P.nh := by omega
      clear hg old hr hF
      go_wp2
      go_ret
      have hs := HG.out.size
      refine ⟨_, rfl, fun j hj => ⟨_, 0, rfl, HR.out.lt, ?_⟩, HBEL.out.trans (grown_below HG.out (by omega) (by omega))⟩
      have := HR.out.cell hj
      rw [HF.out j hj] at this
      simpa using this

set_option maxHeartbeats 4000000 in
/-- Whose turn it is. -/
theorem rnext_any (G : RGood K rep P blk c st un capw sv) (H : Has w base blk c) (SH : SeesH w B aoh P.nh P.jn P.jb) (SI : SeesI w B aos P.ns P.sched) (hB : B ≤ w.heap.size) (most : Int) :
    Calls Try.prog 28 #[rv sh P blk capw (.slice aoh P.nh caph) sv st.last, .slice aos P.ns caps, .int .i64 most] w fun e w' => e = .returned (.int .i64 (if most ≤ st.k then -1 else st.turn P)) ∧ Below w.heap.size w w' := by
  obtain ⟨r, hr⟩ : ∃ r : Int, (if most ≤ st.k then -1 else st.turn P) = r := ⟨_, rfl⟩
  rw [hr]
  have hnh := G.hands
  have hlast := G.lastOk
  obtain ⟨sa, sc, hsv⟩ := G.steps.isSlice'
  subst hsv
  have w1b : Below w.heap.size w (w.alloc (.cells (runCells sh (.slice (some ⟨blk .words, 0, none⟩) P.n capw) (.slice aoh P.nh caph) (sl (blk .tasks) P.nh) (sl (blk .going) P.nh) (sl (blk .run) P.nh) (sl (blk .mem) P.nh) (.slice sa st.k sc) (sl (blk .answers) P.nh) st.last).toArray 78)) := (Below.refl _ w).alloc (Nat.le_refl _) _
  have GO := hide (fun (w' : World) (hb : Below w.heap.size w w') => rgoing_any (sh := sh) (la := st.last) (caph := caph) G (H.below hb) (SH.below hb hB) (Nat.le_trans hB hb.size))
  have HB1 := hide w1b
  have HSI := hide (fun (w' : World) (hb : Below w.heap.size w w') => SI.below hb hB)
  clear G H SH SI w1b
  obtain ⟨s0, s1, s2, s3, s4, s5⟩ := sh
  unfold rv at GO ⊢
  simp only [runCells, sl] at GO HB1 ⊢
  by_cases hm : most ≤ st.k
  · rw [if_pos hm] at hr
    subst hr
    have hm' : ¬ (st.k : Int) < most := by omega
    go_enter Try.func28, Try.ntmps28
    go_wp2_with fail
    go_ret
    exact ⟨rfl, HB1.out⟩
  · rw [if_neg hm] at hr
    unfold St.turn at hr
    by_cases hk : st.k < P.ns
    · rw [if_pos hk] at hr
      subst hr
      obtain ⟨b, off, rfl, hbl, hcc⟩ := HSI.out w (Below.refl _ w) _ hk
      have hkn : (st.k : Int) < (P.ns : Int) := by omega
      have hblw : b < w.heap.size := by omega
      go_enter Try.func28, Try.ntmps28
      go_wp2_with fail
      go_region_with (first | (go_at_call 39; refine (GO.out _ HB1.out.drew).mono ?_; rintro e w2 ⟨g, rfl, hsb, hb2⟩; have HSB := hide hsb; have HB2 := hide hb2; have cc2 : w2.cell? ⟨b, off + st.k, none⟩ = some (.int .i64 (P.sched st.k)) := (hb2.cell (p := ⟨b, off + st.k, none⟩) (by show b < _; simp; omega)).trans (by simpa using (HB1.out.cell (p := ⟨b, off + st.k, none⟩) (by show b < _; omega)).trans hcc); clear hsb hb2) | (go_at_call 38; refine (rpick_any HSB.out (by omega) (P.sched st.k)).mono ?_; rintro e w3 ⟨rfl, hw3⟩; obtain rfl := hw3.symm))
      all_goals go_wp2_with fail
      all_goals go_ret
      all_goals exact ⟨rfl, HB1.out.drew.trans (HB2.out.mono (by simp))⟩
    · rw [if_neg hk] at hr
      subst hr
      have hkn : ¬ (st.k : Int) < (P.ns : Int) := by omega
      go_enter Try.func28, Try.ntmps28
      go_wp2_with fail
      go_region_with (first | (go_at_call 39; refine (GO.out _ HB1.out.drew).mono ?_; rintro e w2 ⟨g, rfl, hsb, hb2⟩; have HSB := hide hsb; have HB2 := hide hb2; have cc2 : w2.cell? ⟨w.heap.size, 14, none⟩ = some (.int .i64 st.last) := (hb2.cell (p := ⟨w.heap.size, 14, none⟩) (by show w.heap.size < _; simp)).trans (by simp); clear hsb hb2) | (go_at_call 40; refine (after_any HSB.out (by omega) st.last hlast.1 hlast.2).mono ?_; rintro e w3 ⟨rfl, hw3⟩; obtain rfl := hw3.symm))
      all_goals go_wp2_with fail
      all_goals go_ret
      all_goals exact ⟨rfl, HB1.out.drew.trans (HB2.out.mono (by simp))⟩
end Go.Proofs.Ytchhkoalibapiaa
