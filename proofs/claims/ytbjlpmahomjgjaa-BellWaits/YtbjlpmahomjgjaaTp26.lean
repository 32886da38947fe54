/-
  Lemmas: BellL.
-/
import Derived.Test.YtbjlpmahomjgjaaTp25
import Derived.Test.YtbjlpmahomjgjaaTp19
import Derived.LoopN
/-
  The tasks of a bell: the statements' own example through the bell.
-/
namespace Go.Proofs.Ytbjlpmahomjgjaa
open Go.RowKit
set_option linter.unusedVariables false
set_option linter.unusedSimpArgs false
set_option maxRecDepth 20000
namespace Bell

theorem infoS : (Try.prog.info? 43).map (fun i => (i.zero.map Value.cells, i.size, i.bytes)) = some (some #[.slice none 0 0], 1, 24) := by kernel_rfl
set_option maxHeartbeats 4000000 in
theorem rings21 (w : World) : Calls Try.prog 28 #[.int .i64 2, .int .i64 1] w fun e w' => ∃ g, e = .returned (.slice (some ⟨g, 0, none⟩) 2 2) ∧ SeesH w' w'.heap.size (some ⟨g, 0, none⟩) 2 (fun _ => 1) (fun _ _ => ⟨1, 0, 0, 0, 0⟩) ∧ Below w.heap.size w w' := by
  obtain ⟨iJ, hiJ, hzJ, hsJ, hyJ⟩ := KV.infoJ
  have hmk : ∀ w' : World, (Instr.makeSlice 25 (.int .i64 2) (.int .i64 2)).run Try.prog w' = .ok (.slice (some ⟨w'.heap.size, 0, none⟩) 2 2) (w'.alloc (.cells #[.slice none 0 0, .slice none 0 0] 43)) := fun w' => by
    have h := run_make_z 25 43 _ 1 24 Try.underlying25 infoS 2 (by decide) (by decide) w'
    rw [show madeCells #[Value.slice none 0 0] (2 * 1) = #[.slice none 0 0, .slice none 0 0] from by first | rfl | kernel_rfl | (simp [madeCells]; done) | decide] at h
    exact h
  obtain ⟨W0, hW0⟩ : ∃ W0, w.alloc (.cells #[.slice none 0 0, .slice none 0 0] 43) = W0 := ⟨_, rfl⟩
  have R0 : W0.rowIs w.heap.size 43 2 (fun _ => .slice none 0 0) := by
    rw [← hW0]
    exact rowIs_cells _ 43 _ 2 rfl (fun i hi => by
      match i, hi with
      | 0, _ | 1, _ => rfl)
  have B0 := hide (show Below w.heap.size w W0 from by rw [← hW0]; exact (Below.refl _ w).alloc (Nat.le_refl _) _)
  obtain ⟨g, hg⟩ : ∃ g, w.heap.size = g := ⟨_, rfl⟩
  rw [hg] at R0
  have sz0 : W0.heap.size = g + 1 := by rw [← hW0, ← hg]; simp
  have c0 : W0.cell? ⟨g, 0, none⟩ = some (.slice none 0 0) := R0.cell (i := 0) (by omega)
  have lg : g < W0.heap.size := by omega
  have HR0 := hide R0
  have SZ0 := hide sz0
  clear R0 sz0
  go_enter Try.func28, Try.ntmps28
  go_wp2_with fail
  clear hmk hW0
  refine wp_loop_rounds 3 ?_
  rw [rounds_succ]
  go_wp2_with fail
  refine wp_loop_rounds 2 ?_
  rw [rounds_succ]
  go_wp2_with (at_builtin
               refine wpList_append_opt rfl (.tmp 25) (.tmp 27) 43 rfl W0.heap.size 45 iJ (.agg #[.int .i64 0, .int .i64 0, .int .i64 0, .int .i64 0, .int .u64 0]) 5 40 Try.underlying43 hiJ hzJ hsJ hyJ rfl (by decide) (.slice none 0 0) 0 [] rfl (World.ownsRow_nil _ _ _ _) (some ⟨W0.heap.size, 0, none⟩) 1 1 [.int .i64 1, .int .i64 0, .int .i64 0, .int .i64 0, .int .u64 0] rfl (fun h => by cases h) rfl (fun ad had q u hu => by cases had; rw [Go.WideShapes.add_plain]; match q, hu with | 0, hu => injection hu with hu; subst hu; simp | 1, hu => injection hu with hu; subst hu; simp | 2, hu => injection hu with hu; subst hu; simp | 3, hu => injection hu with hu; subst hu; simp | 4, hu => injection hu with hu; subst hu; simp) (by simp [Value.oneCell']) (by unfold maxLen; omega) (by omega) (by simp) ?_
               intro v0 w1 hown0 hgrow0 _
               obtain ⟨b0, cp0, F0, rfl, hb0, row0, pre0, hc0, _⟩ := row_of_owns hown0 (by decide)
               have B0x := hide (show Below W0.heap.size W0 w1 from ((Below.refl _ W0).alloc (Nat.le_refl _) _).trans (below_of_grown_none (by simpa [Value.ownBlock] using hgrow0) _ (by simp)))
               have sz0x := B0x.out.size
               have ROW0 := hide row0
               have PRE0 := hide pre0
               have lb0 := row0.lt
               clear hown0 hgrow0 row0 pre0
               have R1 : w1.rowIs g 43 2 (fun _ => .slice none 0 0) := HR0.out.of_block (B0x.out.block g lg)
               have d0 : w1.cell? ⟨g, 0, none⟩ = some (.slice none 0 0) := R1.cell (i := 0) (by omega)
               have f0 := R1.frozen 0
               have lg1 : g < w1.heap.size := by omega
               obtain ⟨W2, hW2⟩ : ∃ W2, w1.setCell ⟨g, 0, none⟩ (.slice (some ⟨b0, 0, none⟩) 1 cp0) = W2 := ⟨_, rfl⟩
               have R2 : W2.rowIs g 43 2 (fun j => if j = 0 then .slice (some ⟨b0, 0, none⟩) 1 cp0 else .slice none 0 0) := by rw [← hW2]; exact R1.set 0 _
               have T2 : Touch w1 W2 (fun k => k = g) := by rw [← hW2]; exact Touch.setCell (S := fun k => k = g) (Touch.refl w1 _) ⟨g, 0, none⟩ (.inl rfl) _
               have sz2 : W2.heap.size = w1.heap.size := by rw [← hW2]; simp
               have e1 : W2.cell? ⟨g, 1, none⟩ = some (.slice none 0 0) := R2.cell (i := 1) (by omega)
               have lg2 : g < W2.heap.size := by omega
               have HR2 := hide R2
               have HT2 := hide T2
               have SZ2 := hide sz2
               have n0g : b0 ≠ g := by have := SZ0.out; omega
               clear R1 R2 T2 c0 sz2)
  clear hW2 d0 f0
  rw [rounds_succ]
  go_wp2_with fail
  rw [rounds_succ]
  go_wp2_with fail
  refine wp_loop_rounds 2 ?_
  rw [rounds_succ]
  go_wp2_with (at_builtin
               refine wpList_append_opt rfl (.tmp 25) (.tmp 27) 43 rfl W2.heap.size 45 iJ (.agg #[.int .i64 0, .int .i64 0, .int .i64 0, .int .i64 0, .int .u64 0]) 5 40 Try.underlying43 hiJ hzJ hsJ hyJ rfl (by decide) (.slice none 0 0) 0 [] rfl (World.ownsRow_nil _ _ _ _) (some ⟨W2.heap.size, 0, none⟩) 1 1 [.int .i64 1, .int .i64 0, .int .i64 0, .int .i64 0, .int .u64 0] rfl (fun h => by cases h) rfl (fun ad had q u hu => by cases had; rw [Go.WideShapes.add_plain]; match q, hu with | 0, hu => injection hu with hu; subst hu; simp | 1, hu => injection hu with hu; subst hu; simp | 2, hu => injection hu with hu; subst hu; simp | 3, hu => injection hu with hu; subst hu; simp | 4, hu => injection hu with hu; subst hu; simp) (by simp [Value.oneCell']) (by unfold maxLen; omega) (by omega) (by simp) ?_
               intro v1 w3 hown1 hgrow1 _
               obtain ⟨b1, cp1, F1, rfl, hb1, row1, pre1, hc1, _⟩ := row_of_owns hown1 (by decide)
               have B1 := hide (show Below W2.heap.size W2 w3 from ((Below.refl _ W2).alloc (Nat.le_refl _) _).trans (below_of_grown_none (by simpa [Value.ownBlock] using hgrow1) _ (by simp)))
               have sz1 := B1.out.size
               have ROW1 := hide row1
               have PRE1 := hide pre1
               have lb1 := row1.lt
               clear hown1 hgrow1 row1 pre1
               have R3 : w3.rowIs g 43 2 (fun j => if j = 0 then .slice (some ⟨b0, 0, none⟩) 1 cp0 else .slice none 0 0) := HR2.out.of_block (B1.out.block g lg2)
               have d1 : w3.cell? ⟨g, 1, none⟩ = some (.slice none 0 0) := R3.cell (i := 1) (by omega)
               have f1 := R3.frozen 1
               have lg3 : g < w3.heap.size := by omega
               have HR3 := hide R3
               clear R3 e1)
  rw [rounds_succ]
  go_wp2_with fail
  rw [rounds_succ]
  go_wp2_with fail
  go_ret
  have sz0 := SZ0.out
  have sz2 := SZ2.out
  have q0 : w3.rowIs b0 45 (cp0 * 5) F0 := ((ROW0.out.of_block (HT2.out.block b0 lb0 (by omega))).of_block (B1.out.block b0 (by omega)))
  have hne0 : b0 ≠ g := by omega
  have hne1 : b1 ≠ g := by omega
  refine ⟨g, rfl, ?_, ?_⟩
  · intro h hh
    have R4 := HR3.out.set 1 (.slice (some ⟨b1, 0, none⟩) 1 cp1)
    have two : ∀ (bb cp : Nat) (F : Nat → Value), 1 ≤ cp → (w3.setCell ⟨g, 1, none⟩ (.slice (some ⟨b1, 0, none⟩) 1 cp1)).rowIs bb 45 (cp * 5) F → Pre F ([] ++ [.int .i64 1, .int .i64 0, .int .i64 0, .int .i64 0, .int .u64 0]) → SeesJ (w3.setCell ⟨g, 1, none⟩ (.slice (some ⟨b1, 0, none⟩) 1 cp1)) (w3.setCell ⟨g, 1, none⟩ (.slice (some ⟨b1, 0, none⟩) 1 cp1)).heap.size (some ⟨bb, 0, none⟩) 1 (fun _ => ⟨1, 0, 0, 0, 0⟩) := by
      intro bb cp F hcp hrow hpre i hi
      refine ⟨bb, 0, rfl, hrow.lt, fun q hq => ?_⟩
      have : i = 0 := by omega
      subst this
      match q, hq with
      | 0, _ => rw [show ((0 : Nat) + 0 * 5 + 0) = 0 from rfl, hrow.cell (i := 0) (by omega), hpre 0 _ rfl]; rfl
      | 1, _ => rw [show ((0 : Nat) + 0 * 5 + 1) = 1 from rfl, hrow.cell (i := 1) (by omega), hpre 1 _ rfl]; rfl
      | 2, _ => rw [show ((0 : Nat) + 0 * 5 + 2) = 2 from rfl, hrow.cell (i := 2) (by omega), hpre 2 _ rfl]; rfl
      | 3, _ => rw [show ((0 : Nat) + 0 * 5 + 3) = 3 from rfl, hrow.cell (i := 3) (by omega), hpre 3 _ rfl]; rfl
      | 4, _ => rw [show ((0 : Nat) + 0 * 5 + 4) = 4 from rfl, hrow.cell (i := 4) (by omega), hpre 4 _ rfl]; rfl
    match h, hh with
    | 0, _ => exact ⟨g, 0, some ⟨b0, 0, none⟩, cp0, rfl, R4.lt, R4.cell (i := 0) (by omega), two b0 cp0 F0 hc0 (q0.setOther (by simpa using hne0) _) PRE0.out⟩
    | 1, _ => exact ⟨g, 0, some ⟨b1, 0, none⟩, cp1, rfl, R4.lt, R4.cell (i := 1) (by omega), two b1 cp1 F1 hc1 (ROW1.out.setOther (by simpa using hne1) _) PRE1.out⟩
  · rw [hg] at B0 ⊢
    have T1 : Below g W0 w1 := B0x.out.mono (by omega)
    have T3 : Below g W2 w3 := B1.out.mono (by omega)
    have T2 : Below g w1 W2 := HT2.out.below (fun k hk => by omega) (by omega)
    exact (((B0.out.trans T1).trans T2).trans T3).setCell (by simp) _

namespace Exam
def P0 : Par := { n := 2, nh := 2, jn := fun _ => 1, jb := fun _ _ => ⟨1, 0, 0, 0, 0⟩, ns := 9, sched := fun i => if i = 4 then 1 else if i = 5 then 1 else if i = 6 then 1 else if i = 7 then 1 else 0 }
def s9 : St (kBell 2) := runSt P0 (st0 (kBell 2) P0 (fun _ => 0)) 100
theorem k9 : s9.k = 9 := by decide +kernel
theorem e9 : cnt (s9.going P0) P0.nh = 0 := by decide +kernel
theorem d0 : s9.done 0 = 1 := by decide +kernel
theorem d1 : s9.done 1 = 1 := by decide +kernel
theorem a0 : (s9.ans 0 0).ok = false := by decide +kernel
theorem a1 : (s9.ans 1 0).ok = true := by decide +kernel
end Exam

theorem exam_play (v : World) (gw gh : Nat) (R : v.rowIs gw 42 2 (fun _ => .int .u64 0)) (H : SeesH v v.heap.size (some ⟨gh, 0, none⟩) 2 (fun _ => 1) (fun _ _ => ⟨1, 0, 0, 0, 0⟩)) :
    Calls Try.prog 11 #[(⟨0, 0, 0, 0, 0, 2⟩ : Shp).val, .slice (some ⟨gw, 0, none⟩) 2 2, .slice (some ⟨gh, 0, none⟩) 2 2, .slice (some ⟨v.heap.size, 0, none⟩) 9 9, .int .i64 100]
    (v.alloc (.cells #[.int .i64 0, .int .i64 0, .int .i64 0, .int .i64 0, .int .i64 1, .int .i64 1, .int .i64 1, .int .i64 1, .int .i64 0] 3)) (LAll (kBell 2) 2 (v.alloc (.cells #[.int .i64 0, .int .i64 0, .int .i64 0, .int .i64 0, .int .i64 1, .int .i64 1, .int .i64 1, .int .i64 1, .int .i64 0] 3)) Exam.P0 (fun _ => 0) 100) := by
  have B0 : Below v.heap.size v (v.alloc (.cells #[.int .i64 0, .int .i64 0, .int .i64 0, .int .i64 0, .int .i64 1, .int .i64 1, .int .i64 1, .int .i64 1, .int .i64 0] 3)) := (Below.refl _ v).alloc (Nat.le_refl _) _
  have R4 := row_arr v #[.int .i64 0, .int .i64 0, .int .i64 0, .int .i64 0, .int .i64 1, .int .i64 1, .int .i64 1, .int .i64 1, .int .i64 0] 3
  refine play_all (sh := ⟨0, 0, 0, 0, 0, 2⟩) (P := Exam.P0) (f := fun _ => 0) (most := 100) (want := 2) (by decide) (by decide) (by decide) ?_ (fun i _ => by constructor <;> decide) ?_ (by decide) ?_ (fun h _ j _ => ?_)
  · intro j hj
    have hj' : j < 2 := hj
    refine ⟨gw, 0, rfl, (R.alloc _).lt, ?_⟩
    have := (R.alloc (.cells #[.int .i64 0, .int .i64 0, .int .i64 0, .int .i64 0, .int .i64 1, .int .i64 1, .int .i64 1, .int .i64 1, .int .i64 0] 3)).cell (i := j) hj'
    simpa using this
  · exact (H.below B0 (Nat.le_refl _)).up (by simp)
  · intro j hj
    refine ⟨v.heap.size, 0, rfl, R4.lt, ?_⟩
    have : j < 9 := hj
    match j, this with
    | 0, _ => exact R4.cell (i := 0) (by decide)
    | 1, _ => exact R4.cell (i := 1) (by decide)
    | 2, _ => exact R4.cell (i := 2) (by decide)
    | 3, _ => exact R4.cell (i := 3) (by decide)
    | 4, _ => exact R4.cell (i := 4) (by decide)
    | 5, _ => exact R4.cell (i := 5) (by decide)
    | 6, _ => exact R4.cell (i := 6) (by decide)
    | 7, _ => exact R4.cell (i := 7) (by decide)
    | 8, _ => exact R4.cell (i := 8) (by decide)
  · exact ⟨by show (0 : Int) ≤ 0; decide, by show (0 : Int) ≤ 18446744073709551615; decide⟩

set_option maxHeartbeats 4000000 in
theorem awake_any (w : World) : Calls Try.prog 9 #[] w fun e w' => e = .returned (.bool true) ∧ Below w.heap.size w w' := by
  have EX := hide exam_play
  have RG_ := hide rings21
  simp only [Shp.val] at EX
  obtain ⟨W0, hW0⟩ : ∃ W0, w.alloc (.cells #[.int .u64 0, .int .u64 0] 42) = W0 := ⟨_, rfl⟩
  have b0 := hide (show Below w.heap.size w W0 from by rw [← hW0]; exact (Below.refl _ w).alloc (Nat.le_refl _) _)
  have R0 := hide (show W0.rowIs w.heap.size 42 2 (fun _ => .int .u64 0) from by
    rw [← hW0]
    exact rowIs_cells _ 42 _ 2 rfl (fun i hi => by
      match i, hi with
      | 0, _ | 1, _ => rfl))
  go_enter Try.func9, Try.ntmps9
  go_wp2_with fail
  clear hW0
  refine (RG_.out _).mono ?_
  rintro e w2 ⟨gh, rfl, hH, hb2⟩
  have HH := hide hH
  have B2 := hide hb2
  have R2 := hide (R0.out.of_block (hb2.block w.heap.size R0.out.lt))
  clear hH hb2
  go_wp2_with fail
  refine (EX.out w2 w.heap.size gh R2.out HH.out).mono ?_
  rintro e w3 ⟨hb, hcase⟩
  have BX : Below w2.heap.size w2 (w2.alloc (.cells #[.int .i64 0, .int .i64 0, .int .i64 0, .int .i64 0, .int .i64 1, .int .i64 1, .int .i64 1, .int .i64 1, .int .i64 0] 3)) := (Below.refl w2.heap.size w2).alloc (Nat.le_refl _) _
  have BB := hide ((b0.out.trans (B2.out.mono b0.out.size)).trans ((BX.trans (hb.mono (by simp))).mono (by have := b0.out.size; have := B2.out.size; omega)))
  clear hb BX
  rcases hcase with ⟨er, hle, rfl⟩ | ⟨_, hF, hok, v, rfl, blk, c, g', sv, rfl, H, G, GS, R, hg, hne⟩
  · refine absurd ⟨?_, ?_⟩ (show ¬ (Fine Exam.P0 100 ∧ AllOk (kBell 2) Exam.P0) from by rcases hle with ⟨h, _⟩ | ⟨_, h⟩; exact absurd rfl h; exact h.not)
    · refine ⟨by decide, ?_, by decide, by decide, by decide⟩
      rintro (h | ⟨h, hh, h2⟩)
      · exact absurd h (by decide)
      · have h3 : 256 < 1 := h2
        omega
    · intro h hh j hj
      rfl
  · have hst : runSt Exam.P0 (st0 (kBell 2) Exam.P0 (fun _ => 0)) (Int.toNat 100) = Exam.s9 := rfl
    rw [hst] at G GS R ⊢
    rw [Exam.e9]
    obtain ⟨b, cap, rfl, hbl, _, hcs⟩ := grows_cell GS H (stepCells_length _ _) (by rw [Exam.k9]; decide)
    obtain ⟨A, eA, hA⟩ := G.answers
    have a0 := hA 0 (by decide)
    have a1 := hA 1 (by decide)
    rw [Exam.d0] at a0
    rw [Exam.d1] at a1
    obtain ⟨b0', cap0, eA0, hbl0, _, hcs0⟩ := grows_cell a0 H (ansCells_length _ _) (by decide)
    obtain ⟨b1', cap1, eA1, hbl1, _, hcs1⟩ := grows_cell a1 H (ansCells_length _ _) (by decide)
    have ak := hcs0 _ _ (ansCells_get (Exam.s9.ans 0) 1 0 0 (by decide) (by decide))
    have bk := hcs1 _ _ (ansCells_get (Exam.s9.ans 1) 1 0 0 (by decide) (by decide))
    simp only [Ans.cell, Exam.a0, Exam.a1] at ak bk
    have ah := H.cell eA (i := 0) (show 0 < 2 by decide)
    have ah1 := H.cell eA (i := 1) (show 1 < 2 by decide)
    simp only [eA0, eA1] at ah ah1
    have la := H.lt eA
    rw [Exam.k9]
    have n1 : Exam.P0.n = 2 := rfl
    have n2 : Exam.P0.nh = 2 := rfl
    rw [n1, n2]
    obtain ⟨ba, hba⟩ : ∃ ba, blk .answers = ba := ⟨_, rfl⟩
    rw [hba] at ah ah1 la ⊢
    simp only [Nat.zero_mul, Nat.zero_add, Nat.reduceMul, Nat.reduceAdd] at ak bk
    clear H G GS R hne hcs hcs0 hcs1 hA a0 a1 hok hst hF
    simp only [decide_true]
    go_wp2_with fail
    go_ret
    exact ⟨rfl, BB.out.alloc (by have := BB.out.size; omega) _⟩
end Bell
end Go.Proofs.Ytbjlpmahomjgjaa
