/-
  SeqTasks: whatever shape, hand and job are handed in, seq's Size, Fresh and Task tell the reference's numbers, words and errors, and a task is there just where there is no error: the law answers true, and the input reads as it did. No condition beyond the row's.
-/
import Derived.Test.YtkiojiibppdjjaaTp31
import Derived.Test.YtkiojiibppdjjaaTp32
import Derived.Test.YtkiojiibppdjjaaTp21
set_option linter.unusedVariables false
set_option linter.unusedSimpArgs false
set_option linter.unnecessarySimpa false
set_option maxRecDepth 100000
namespace Go.Proofs.Ytkiojiibppdjjaa
open Go.RowKit
namespace Seq


set_option maxHeartbeats 4000000 in
theorem rfresh_any (w : World) (sh : Shp) {want : Nat} {E : Int} (hw4 : want ≤ 128) (SZ0 : ∀ w' : World, Calls Try.prog 19 #[sh.val] w' fun e w'' => e = .returned (.tuple #[.int .i64 want, .int .i64 E]) ∧ w'.grownBy w'' none) : Calls Try.prog 21 #[sh.val] w fun e w' => ∃ g, e = .returned (.tuple #[.slice (some ⟨g, 0, none⟩) want want, .int .i64 E]) ∧ IsRow w' g want want (fun _ => 0) ∧ w.heap.size ≤ g ∧ w.grownBy w' none := by
  have SZ := hide SZ0
  obtain ⟨s0, s1, s2, s3, s4, s5⟩ := sh
  simp only [Shp.val] at SZ ⊢
  have hmk := run_make_z (P := Try.prog) 24 47 _ 1 8 Try.underlying24 info46 want (by omega) (by omega)
  simp only [Nat.mul_one] at hmk
  clear SZ0
  go_enter Try.func21, Try.ntmps21
  go_wp2_with (go_at_call 19; refine (SZ.out _).mono ?_; rintro e w1 ⟨rfl, hg1⟩; have HG := hide hg1; have sz1 := hg1.size; simp only [World.size_alloc] at sz1; clear hg1)
  go_ret2
  exact ⟨w1.heap.size, rfl, ⟨Nat.le_refl _, by unfold maxLen; omega, ⟨_, World.rowIs_made w1 (.int .u64 0) want 47, fun i hi => rfl⟩, fun i hi => ⟨Int.le_refl 0, by show (0 : Int) ≤ 18446744073709551615; decide⟩⟩, by omega, grown_alloc (grown_trans (grown_alloc (grown_refl _ _) _) HG.out) _⟩

set_option maxHeartbeats 8000000 in
theorem tasks_core {w : World} {sh : Shp} {hand : Int} {j : Jb} {want : Nat} {E1 E2 : Int} {cs : List Value} {tv : Bool} {T : TypeId} {fw : Nat → Int} (hw : want ≤ 130)
    (HSR : ∀ w : World, Calls Try.prog 19 #[sh.val] w fun e w' => e = .returned (.tuple #[.int .i64 want, .int .i64 E1]) ∧ w.grownBy w' none)
    (HSP : ∀ w : World, Calls Try.prog 20 #[sh.val] w fun e w' => e = .returned (.tuple #[.int .i64 want, .int .i64 E1]) ∧ w.grownBy w' none)
    (HFR : ∀ w : World, Calls Try.prog 22 #[sh.val] w fun e w' => ∃ ao cap, e = .returned (.tuple #[.slice ao want cap, .int .i64 E1]) ∧ Sees w' w'.heap.size ao want fw ∧ w.grownBy w' none)
    (HFQ : ∀ w : World, Calls Try.prog 21 #[sh.val] w fun e w' => ∃ ao cap, e = .returned (.tuple #[.slice ao want cap, .int .i64 E1]) ∧ Sees w' w'.heap.size ao want fw ∧ w.grownBy w' none)
    (hcs : IsTk cs) (HST : ∀ w : World, Calls Try.prog 23 #[sh.val, .int .i64 hand, j.val, kept0] w fun e w' => e = .returned (.tuple #[.agg cs.toArray, .int .i64 E2]) ∧ Below w.heap.size w w')
    (htv : tv = decide (E2 = 0)) (HTK : ∀ w : World, Calls Try.prog 24 #[sh.val, .int .i64 hand, j.val] w fun e w' => ∃ b, e = .returned (.tuple #[if tv = true then .iface T (.pointer (some ⟨b, 0, none⟩)) else .nilIface, .int .i64 E2]) ∧ w.grownBy w' none) :
    Calls Try.prog 4 #[sh.val, .int .i64 hand, j.val] w fun e w' => e = .returned (.bool true) ∧ Below w.heap.size w w' := by
  obtain ⟨s0, s1, s2, s3, s4, s5⟩ := sh
  obtain ⟨kind, a, b, c, hh⟩ := j
  simp only [Shp.val, Jb.val, kept0] at HSR HSP HFR HFQ HST HTK ⊢
  have KSR := hide HSR
  have KSP := hide HSP
  have KFR := hide HFR
  have KFQ := hide HFQ
  have KST := hide HST
  have KTK := hide HTK
  have KCS := hide hcs
  clear HSR HSP HFR HFQ HST HTK hcs
  obtain ⟨W0, hW0⟩ : ∃ W0, (w.alloc (.cells #[.int .i64 s0, .int .i64 s1, .int .i64 s2, .int .i64 s3, .int .i64 s4, .int .i64 s5] 23)).alloc (.cells #[.int .i64 kind, .int .i64 a, .int .i64 b, .int .i64 c, .int .u64 hh] 49) = W0 := ⟨_, rfl⟩
  have b0 : Below w.heap.size w W0 := by rw [← hW0]; exact ((Below.refl _ w).alloc (Nat.le_refl _) _).alloc (by simp) _
  have sz0 : W0.heap.size = w.heap.size + 2 := by rw [← hW0]; simp
  have R0 : W0.rowIs w.heap.size 23 6 (lrow [.int .i64 s0, .int .i64 s1, .int .i64 s2, .int .i64 s3, .int .i64 s4, .int .i64 s5]) := by rw [← hW0]; exact (rowL_alloc w [.int .i64 s0, .int .i64 s1, .int .i64 s2, .int .i64 s3, .int .i64 s4, .int .i64 s5] _ rfl).alloc _
  have R1 : W0.rowIs (w.heap.size + 1) 49 5 (lrow [.int .i64 kind, .int .i64 a, .int .i64 b, .int .i64 c, .int .u64 hh]) := by
    rw [← hW0]
    have := rowL_alloc (w.alloc (.cells #[.int .i64 s0, .int .i64 s1, .int .i64 s2, .int .i64 s3, .int .i64 s4, .int .i64 s5] 23)) [.int .i64 kind, .int .i64 a, .int .i64 b, .int .i64 c, .int .u64 hh] 49 (n := 5) rfl
    rwa [World.size_alloc] at this
  have keep : Hid (∀ w' : World, Below W0.heap.size W0 w' → Below w.heap.size w w' ∧ (w.heap.size + 1 < w'.heap.size) ∧ (w'.cell? ⟨w.heap.size, 0, none⟩ = some (.int .i64 s0) ∧ w'.cell? ⟨w.heap.size, 1, none⟩ = some (.int .i64 s1) ∧ w'.cell? ⟨w.heap.size, 2, none⟩ = some (.int .i64 s2) ∧ w'.cell? ⟨w.heap.size, 3, none⟩ = some (.int .i64 s3) ∧ w'.cell? ⟨w.heap.size, 4, none⟩ = some (.int .i64 s4) ∧ w'.cell? ⟨w.heap.size, 5, none⟩ = some (.int .i64 s5)) ∧
      w'.cell? ⟨w.heap.size + 1, 0, none⟩ = some (.int .i64 kind) ∧ w'.cell? ⟨w.heap.size + 1, 1, none⟩ = some (.int .i64 a) ∧ w'.cell? ⟨w.heap.size + 1, 2, none⟩ = some (.int .i64 b) ∧ w'.cell? ⟨w.heap.size + 1, 3, none⟩ = some (.int .i64 c) ∧ w'.cell? ⟨w.heap.size + 1, 4, none⟩ = some (.int .u64 hh)) := fun w' hb => by
    have r := R0.of_block (hb.block w.heap.size R0.lt)
    have r' := R1.of_block (hb.block (w.heap.size + 1) R1.lt)
    exact ⟨b0.trans (hb.mono b0.size), r'.lt, ⟨r.cell (i := 0) (by decide), r.cell (i := 1) (by decide), r.cell (i := 2) (by decide), r.cell (i := 3) (by decide), r.cell (i := 4) (by decide), r.cell (i := 5) (by decide)⟩, r'.cell (i := 0) (by decide), r'.cell (i := 1) (by decide), r'.cell (i := 2) (by decide), r'.cell (i := 3) (by decide), r'.cell (i := 4) (by decide)⟩
  clear b0 R0 R1
  go_enter Try.func4, Try.ntmps4
  go_wp2_with fail
  refine (awake_any W0).mono ?_
  rintro e w1 ⟨rfl, hb1⟩
  have HB1 := hide hb1
  obtain ⟨_, l1, ⟨c0, c1, c2, c3, c4, c5⟩, _⟩ := keep.out w1 hb1
  clear hb1 hW0
  go_wp2_with fail
  refine (KSR.out w1).mono ?_
  rintro e w2 ⟨rfl, hg⟩
  have HB2 := hide (HB1.out.trans (below_of_grown_none hg W0.heap.size HB1.out.size))
  clear hg c0 c1 c2 c3 c4 c5
  obtain ⟨_, l2, ⟨c0, c1, c2, c3, c4, c5⟩, _⟩ := keep.out w2 HB2.out
  go_wp2_with fail
  refine (KSP.out w2).mono ?_
  rintro e w3 ⟨rfl, hg⟩
  have HB3 := hide (HB2.out.trans (below_of_grown_none hg W0.heap.size HB2.out.size))
  clear hg c0 c1 c2 c3 c4 c5
  obtain ⟨_, l3, ⟨c0, c1, c2, c3, c4, c5⟩, _⟩ := keep.out w3 HB3.out
  go_wp2_with fail
  refine (KFQ.out w3).mono ?_
  rintro e w9 ⟨aq, capq, rfl, S9, hg⟩
  have HB9 := hide (HB3.out.trans (below_of_grown_none hg W0.heap.size HB3.out.size))
  have HS9 := hide S9
  clear hg S9 c0 c1 c2 c3 c4 c5
  obtain ⟨_, l9, ⟨c0, c1, c2, c3, c4, c5⟩, _⟩ := keep.out w9 HB9.out
  go_wp2_with fail
  refine (KFR.out w9).mono ?_
  rintro e w4 ⟨ao, cap, rfl, S4, hg⟩
  have HB94 := hide (below_of_grown_none hg w9.heap.size (Nat.le_refl _))
  have HB4 := hide (HB9.out.trans (below_of_grown_none hg W0.heap.size HB9.out.size))
  have HS4 := hide S4
  clear hg S4 c0 c1 c2 c3 c4 c5
  obtain ⟨_, l4, ⟨c0, c1, c2, c3, c4, c5⟩, d0, d1, d2, d3, d4⟩ := keep.out w4 HB4.out
  go_wp2_with fail
  refine (KST.out w4).mono ?_
  rintro e w5 ⟨rfl, hb⟩
  have HB45 := hide hb
  have HB5 := hide (HB4.out.trans (hb.mono HB4.out.size))
  clear hb c0 c1 c2 c3 c4 c5 d0 d1 d2 d3 d4
  obtain ⟨W6, hW6⟩ : ∃ W6, w5.alloc (.cells tk0.toArray 64) = W6 := ⟨_, rfl⟩
  have th6 : W6.there w5.heap.size 0 28 := by
    rw [← hW6]
    have := there_alloc_new (w := w5) (t := 64) (cs := tk0)
    simpa [tk0] using this
  have B6 : Below w5.heap.size w5 W6 := by rw [← hW6]; exact (Below.refl _ w5).alloc (Nat.le_refl _) _
  obtain ⟨W7, hW7⟩ : ∃ W7, W6.setCells w5.heap.size 0 cs = W7 := ⟨_, rfl⟩
  have B7 : Below w5.heap.size w5 W7 := by rw [← hW7]; exact B6.trans ((touch_setCells w5.heap.size cs 0 W6).below (fun k hk => by omega) B6.size)
  have HB7 := hide (HB5.out.trans (B7.mono HB5.out.size))
  have HB47 := hide (HB45.out.trans (B7.mono HB45.out.size))
  obtain ⟨_, l7, ⟨c0, c1, c2, c3, c4, c5⟩, d0, d1, d2, d3, d4⟩ := keep.out W7 HB7.out
  have TH6 := hide th6
  have HW7 := hide hW7
  clear B6 B7 th6 hW7
  simp only [tk0] at hW6
  go_wp2_with (refine wpList_store_mid (by rfl) 64 (.tmp 15) (.tmp 47) (by rfl) w5.heap.size 0 cs.toArray (by rfl) (by rfl) (by simpa [KCS.out.1] using TH6.out) (by simpa [KCS.out.1] using size79) (by exact all_oneCell_toArray KCS.out.2) ?_; rw [List.toList_toArray, HW7.out]; clear hW6)
  refine (KTK.out W7).mono ?_
  rintro e w8 ⟨bb, rfl, hg⟩
  have HB8 := hide (HB7.out.trans (below_of_grown_none hg W0.heap.size HB7.out.size))
  have HB48 := hide (HB47.out.trans (below_of_grown_none hg w4.heap.size (HB47.out.size)))
  clear hg c0 c1 c2 c3 c4 c5 d0 d1 d2 d3 d4
  have FIN := hide (keep.out w8 HB8.out).1
  have S8 := hide (HS4.out.below HB48.out (Nat.le_refl _))
  have S9' := hide ((HS9.out.below HB94.out (Nat.le_refl _)).mono HB94.out.size |>.below HB48.out (Nat.le_refl _))
  have hi := iface_nil T
  have hn := iface_none
  have hw63 : want ≤ 9223372036854775807 := by omega
  by_cases hE : E2 = 0
  · subst hE
    obtain rfl : tv = true := by simpa using htv
    clear htv
    simp only [if_true]
    go_wp2_with (go_at_call 25; refine (same_words S8.out S9'.out (fun i hi => rfl) hw63).mono ?_; rintro e w10 ⟨rfl, m10, hw10⟩; have B10 := hide (show Below w8.heap.size w8 w10 from by rw [hw10]; exact below_drewN (Below.refl _ w8) _); clear hw10)
    go_ret
    exact ⟨rfl, FIN.out.trans (B10.out.mono FIN.out.size)⟩
  · obtain rfl : tv = false := by simpa [hE] using htv
    clear htv
    have hE' : (E2 != 0) = true := by simpa using hE
    simp only [Bool.false_eq_true, if_false]
    go_wp2_with (go_at_call 25; refine (same_words S8.out S9'.out (fun i hi => rfl) hw63).mono ?_; rintro e w10 ⟨rfl, m10, hw10⟩; have B10 := hide (show Below w8.heap.size w8 w10 from by rw [hw10]; exact below_drewN (Below.refl _ w8) _); clear hw10)
    go_ret
    exact ⟨rfl, FIN.out.trans (B10.out.mono FIN.out.size)⟩

theorem tasks_walk {w : World} (sh : Shp) (hand : Int) (j : Jb) : Calls Try.prog 4 #[sh.val, .int .i64 hand, j.val] w fun e w' => e = .returned (.bool true) ∧ Below w.heap.size w w' := by
  by_cases hr : sh.f < 1 ∨ 64 < sh.f
  · refine tasks_core (want := 0) (E1 := 120) (E2 := 120) (cs := tk0) (tv := false) (T := 0) (fw := fun _ => 0) (by omega) (fun w => rsize_bad w sh hr) (fun w => size_bad w sh hr) (fun w => (fresh_bad w sh hr).mono fun e w' ⟨he, hg⟩ => ⟨none, 0, he, fun j hj => absurd hj (Nat.not_lt_zero j), hg⟩) (fun w => (rfresh_any w sh (want := 0) (by omega) (fun w => rsize_bad w sh hr)).mono fun e w' ⟨g, he, hr, _, hg⟩ => ⟨_, _, he, hr.sees, hg⟩) tk0_is (fun w => ?_) (by decide) (fun w => (task_shape w sh hand j hr).mono fun e w' ⟨he, hg⟩ => ⟨0, he, hg⟩)
    exact rstart_shape w sh.a sh.b sh.c sh.d sh.e sh.f hand j.kind j.a j.b j.c j.h hr
  · have h1 : 1 ≤ sh.f := by omega
    have h2 : sh.f ≤ 64 := by omega
    obtain ⟨want, hwant⟩ : ∃ want : Nat, (want : Int) = 1 + sh.f := ⟨(1 + sh.f).toNat, by omega⟩
    have hrs : ∀ w : World, Calls Try.prog 19 #[sh.val] w fun e w' => e = .returned (.tuple #[.int .i64 want, .int .i64 0]) ∧ w.grownBy w' none := fun w => by rw [hwant]; exact rsize_ok w sh h1 h2
    have hfr : ∀ w : World, Calls Try.prog 22 #[sh.val] w fun e w' => ∃ ao cap, e = .returned (.tuple #[.slice ao want cap, .int .i64 0]) ∧ Sees w' w'.heap.size ao want (fun _ => 0) ∧ w.grownBy w' none := fun w => (fresh_ok w sh h1 h2 hwant).mono fun e w' ⟨g, he, hr, _, hg⟩ => ⟨_, _, he, hr.sees, hg⟩
    have hfq : ∀ w : World, Calls Try.prog 21 #[sh.val] w fun e w' => ∃ ao cap, e = .returned (.tuple #[.slice ao want cap, .int .i64 0]) ∧ Sees w' w'.heap.size ao want (fun _ => 0) ∧ w.grownBy w' none := fun w => (rfresh_any w sh (by omega) hrs).mono fun e w' ⟨g, he, hr, _, hg⟩ => ⟨_, _, he, hr.sees, hg⟩
    by_cases he : serr hand j = 0
    · refine tasks_core (want := want) (E1 := 0) (E2 := 0) (cs := tk sh hand j 0 .zero ⟨false, 0⟩) (tv := true) (T := (kSeq sh.f).tid j) (by omega) hrs (fun w => by rw [hwant]; exact size_ok w sh h1 h2) hfr hfq (tk_is _ _ _ _ _ _) (fun w => ?_) (by decide) (fun w => (task_any w sh hand j h1 h2 he).mono fun e w' ⟨bb, h, _, _, hg⟩ => ⟨bb, h, hg⟩)
      exact rstart_ok w sh.a sh.b sh.c sh.d sh.e sh.f hand j.kind j.a j.b j.c j.h h1 h2 (serr_cases he)
    · refine tasks_core (want := want) (E1 := 0) (E2 := serr hand j) (cs := tk0) (tv := false) (T := 0) (by omega) hrs (fun w => by rw [hwant]; exact size_ok w sh h1 h2) hfr hfq tk0_is (fun w => ?_) (by simp [he]) (fun w => (task_err w sh hand j h1 h2 he).mono fun e w' ⟨h, hg⟩ => ⟨0, h, hg⟩)
      obtain ⟨kind, a, b, c, hh⟩ := j
      by_cases c1 : kind = 1
      · have c2 : ¬ hand = 0 := fun h => he (by simp [serr, c1, h])
        rw [show serr hand ⟨kind, a, b, c, hh⟩ = 2 from by simp [serr, c1, c2]]
        exact rstart_arg w sh.a sh.b sh.c sh.d sh.e sh.f hand kind a b c hh h1 h2 c1 c2
      · have c2 : ¬ kind = 2 := fun h => he (by simp [serr, h])
        rw [show serr hand ⟨kind, a, b, c, hh⟩ = 200 from by simp [serr, c1, c2]]
        exact rstart_kind w sh.a sh.b sh.c sh.d sh.e sh.f hand kind a b c hh h1 h2 c1 c2
end Seq
end Go.Proofs.Ytkiojiibppdjjaa

namespace Go.Proofs.Ytkiojiibppdjjaa
open Go.ChangeShapes Go.WideShapes Go.ChangeAt Go.RowKit Go.Deep
namespace STasksLaw

theorem list3' {α : Type} {l : List α} (h : l.length = 3) : ∃ a b c, l = [a, b, c] := by
  match l, h with
  | [a, b, c], _ => exact ⟨a, b, c, rfl⟩

theorem isLaw : Lift.IsLaw Rows.seqTasksSpec 3 := ⟨rfl, fun H ds h => by obtain ⟨a, b, c, rfl⟩ := list3' h; rfl⟩

theorem lifted (os : Os) (started : os.Started) (H : Type) (enc : TypeId × Value → H) :
    ReturnsInHanded {} Try.checked os 4 .any (Rows.seqTasksSpec.pre6 enc Try.prog Try.f4 Rows.seqTasksRow.domain false) (Rows.seqTasksSpec.post enc Try.prog Try.f4 false true false false) := by
  refine returnsInHanded_of_change_sized (C := Try.checked) Lift.own started (by kernel_rfl) Try.func4
    (ChangeSpec.witness6 (enc := enc) (C := Try.checked) false ⟨#[], #[.agg #[.int .i64 0, .int .i64 0, .int .i64 0, .int .i64 0, .int .i64 0, .int .i64 0], .int .i64 0, .agg #[.int .i64 0, .int .i64 0, .int .i64 0, .int .i64 0, .int .u64 0]], []⟩ 8 (by kernel_rfl) (by kernel_rfl) (by kernel_rfl) (by kernel_rfl)) ?_
  intro W base args ds gs before hval0 hW hcnd hsz0 _
  have hgs : gs = [] := by
    obtain ⟨_, _, _, hV, _⟩ := hW
    exact (trodVars_none hV).1
  subst hgs
  refine Lift.contract enc (tb := 4) isLaw (by kernel_rfl) (by kernel_rfl) Try.underlying4 W args ds [] before hW ?_
  intro p hA0
  have hval : ∀ (j : Nat) t v, Try.f4.params[j]? = some t → args[j]? = some v → Value.okWide Try.prog W .any base t v := hval0
  have hA : DataW.TrodAll enc Try.prog W 0 (fun _ => true) true Try.f4.params.toList args.toList ds p := hA0
  rw [Try.params4] at hA hval
  obtain ⟨v0, vs0, d0, ds0, p0, q0, hargs0, rfl, rfl, k0, hA1⟩ := trodAll_cons hA
  obtain ⟨v1, vs1, d1, ds1, p1, q1, hargs1, rfl, rfl, k1, hA2⟩ := trodAll_cons hA1
  obtain ⟨v2, vs2, d2, ds2, p2, q2, hargs2, rfl, rfl, k2, hA3⟩ := trodAll_cons hA2
  obtain ⟨rfl, rfl, rfl⟩ := trodAll_nil hA3
  obtain rfl : args = #[v0, v1, v2] := by cases args; simp_all
  obtain ⟨cs0, rfl, hsz0'⟩ := okWide_struct Try.underlying23 (hval 0 23 v0 rfl rfl)
  rw [ncellsSh] at hsz0'
  obtain ⟨fuel0, hf0⟩ := k0
  obtain ⟨sh, hsh⟩ := shape_t (by simpa [Value.cells] using hsz0') hf0
  obtain ⟨cs2, rfl, hsz2⟩ := okWide_struct Try.underlying49 (hval 2 49 v2 rfl rfl)
  rw [ncells51] at hsz2
  obtain ⟨fuel2, hf2⟩ := k2
  obtain ⟨j, hj, _⟩ := open_job (by simpa [Value.cells] using hsz2) hf2
  obtain ⟨x, rfl⟩ := okWide_int Try.underlying3 (hval 1 3 v1 rfl rfl)
  have e0 : (Value.agg cs0) = sh.val := by
    obtain ⟨l0⟩ := cs0
    simp [Value.cells] at hsh
    rw [hsh]; rfl
  have e2 : (Value.agg cs2) = j.val := by
    obtain ⟨l2⟩ := cs2
    obtain ⟨c0, c1, c2, c3, c4, rfl⟩ := list5' (show l2.length = 5 by simpa using hsz2)
    have g0 := hj 0 (by omega)
    have g1 := hj 1 (by omega)
    have g2 := hj 2 (by omega)
    have g3 := hj 3 (by omega)
    have g4 := hj 4 (by omega)
    simp [Value.cells, Jb.cell] at g0 g1 g2 g3 g4
    subst g0 g1 g2 g3 g4
    rfl
  rw [e0, e2]
  exact Seq.tasks_walk sh x j
end STasksLaw

theorem seqTasks_holds : Rows.SeqTasksSaid :=
  OpenClaim.holds_of_wide 4 Try.f4 rfl rfl rfl rfl rfl rfl rfl ⟨rfl, rfl, rfl, rfl, rfl⟩ rfl rfl rfl rfl rfl (by kernel_rfl) Try.func4 (by kernel_rfl)
    (of_decide_eq_true (by kernel_rfl)) (by unfold Func.isWrapper; first | (rw [if_pos (by decide +kernel)]; kernel_rfl) | (rw [if_neg (by decide +kernel)]; exact ⟨rfl, rfl⟩))
    (fun os started H enc _ => STasksLaw.lifted os started H enc)
#print axioms seqTasks_holds
end Go.Proofs.Ytkiojiibppdjjaa
