/-
  RoomTasks: a Make and a Give driven alone, a task before the Gate, a task after it: whatever shape, words, hand, index and colour are handed in, the law answers true, and the input reads as it did. No condition beyond the row's.
-/
import Derived.Test.YtppgbndoijppnaaGreatTp54
import Derived.Test.YtppgbndoijppnaaGreatTp55
namespace Go.Proofs.YtppgbndoijppnaaGreat
set_option maxHeartbeats 8000000
set_option linter.unusedVariables false
set_option linter.unusedSimpArgs false
section
open Go.ChangeShapes Go.WideShapes Go.ChangeAt Go.RowKit Go.Deep
set_option maxRecDepth 100000
namespace RTasksLaw
theorem list1' {α : Type} {l : List α} (h : l.length = 1) : ∃ a, l = [a] := by
 match l, h with
 | [a], _ => exact ⟨a, rfl⟩
theorem list14 {α : Type} {l : List α} (h : l.length = 14) : ∃ a b c d e f g i j k m n o p, l = [a, b, c, d, e, f, g, i, j, k, m, n, o, p] := by
 match l, h with
 | [a, b, c, d, e, f, g, i, j, k, m, n, o, p], _ => exact ⟨a, b, c, d, e, f, g, i, j, k, m, n, o, p, rfl⟩
theorem ncellsJ : Tryz.prog.cellsOf 43 = 14 := by kernel_rfl
theorem ncellsRK : Tryz.prog.cellsOf 28 = 10 := by kernel_rfl
theorem ncellsB : Tryz.prog.cellsOf 4 = 1 := by kernel_rfl
set_option maxRecDepth 4000 in
theorem open_job {H : Type} {enc : TypeId × Value → H} {W : World} {base : Nat} {v : Value} {d : DataW H} {p : List MemPlace} (hv : Value.okWide Tryz.prog W .any base 43 v) (h : DataW.Trod enc Tryz.prog W 0 (fun _ => true) true 43 v d p) :
  ∃ (sh : Shp) (ao : Option Addr) (n cap : Nat) (f : Nat → Int) (aoh : Option Addr) (nh caph : Nat) (aos : Option Addr) (ns caps : Nat) (most hand index colour : Int) (final : Bool),
   v = .agg #[.int .i64 sh.a, .int .i64 sh.b, .int .i64 sh.c, .int .i64 sh.d, .int .i64 sh.e, .int .i64 sh.f, .slice ao n cap, .slice aoh nh caph, .slice aos ns caps, .int .i64 most, .int .i64 hand, .int .i64 index, .int .i64 colour, .bool final] ∧
   (ao = none → n = 0 ∧ cap = 0) ∧ Sees W W.heap.size ao n f ∧ (∀ i, i < n → 0 ≤ f i ∧ f i ≤ 18446744073709551615) ∧ index ≤ 9223372036854775807 := by
 obtain ⟨cs, rfl, hsz⟩ := okWide_struct Tryz.underlying43 hv
 rw [ncellsJ] at hsz
 obtain ⟨l⟩ := cs
 obtain ⟨c0, c1, c2, c3, c4, c5, c6, c7, c8, c9, c10, c11, c12, c13, rfl⟩ := list14 hsz
 obtain ⟨fuel, hf⟩ := h
 obtain ⟨xs, m, _, _, _, hl, hel⟩ := DataW.trod_struct Tryz.underlying43 hf
 obtain ⟨y0, y1, y2, y3, y4, rfl⟩ := list5' hl
 have q0 := hel 0 _ rfl
 have q1 := hel 1 _ rfl
 have q2 := hel 2 _ rfl
 have q3 := hel 3 _ rfl
 have q4 := hel 4 _ rfl
 simp [ncellsRK, ncells3, ncellsB, Value.cells] at q0 q1 q2 q3 q4
 obtain ⟨hand, e1, _, _⟩ := DataW.trod_int Tryz.underlying3 q1
 obtain ⟨index, e2, _, hw2⟩ := DataW.trod_int Tryz.underlying3 q2
 obtain ⟨colour, e3, _, _⟩ := DataW.trod_int Tryz.underlying3 q3
 obtain ⟨final, e4, _⟩ := DataW.trod_bool Tryz.underlying4 q4
 obtain ⟨xs', m', _, _, _, hl', hel'⟩ := DataW.trod_struct Tryz.underlying28 q0
 obtain ⟨z0, z1, z2, z3, z4, rfl⟩ := list5' hl'
 have r0 := hel' 0 _ rfl
 have r1 := hel' 1 _ rfl
 have r2 := hel' 2 _ rfl
 have r3 := hel' 3 _ rfl
 have r4 := hel' 4 _ rfl
 simp [ncellsSh, ncellsW, ncellsH, ncellsI, ncells3, Value.cells] at r0 r1 r2 r3 r4
 obtain ⟨sh, f0⟩ := shape_t rfl r0
 obtain ⟨ao, n, cap, f, f1, a1, a2, a3, a4⟩ := words_t r1
 obtain ⟨aoh, nh, caph, jn, jb, f2, b1, b2, b3⟩ := hands_t r2
 obtain ⟨aos, ns, caps, s, f3, d1, d2⟩ := nums_t r3
 obtain ⟨most, f4, _, _⟩ := DataW.trod_int Tryz.underlying3 r4
 simp at e1 e2 e3 e4 f0 f1 f2 f3 f4
 obtain ⟨rfl, rfl, rfl, rfl, rfl, rfl⟩ := f0
 subst e1 e2 e3 e4 f1 f2 f3 f4
 refine ⟨sh, ao, n, cap, f, aoh, nh, caph, aos, ns, caps, most, hand, index, colour, final, rfl, a1, a3, a4, ?_⟩
 simp [Lit.wf, IntKind.has, IntKind.min, IntKind.max, IntKind.signed, IntKind.bits] at hw2
 omega
theorem isLaw : Lift.IsLaw Rows.roomTasksSpec 1 := ⟨rfl, fun H ds h => by obtain ⟨a, rfl⟩ := list1' h; rfl⟩
theorem lifted (os : Os) (started : os.Started) (H : Type) (enc : TypeId × Value → H) :
  ReturnsInHanded {} Tryz.checked os 4 .any (Rows.roomTasksSpec.pre6 enc Tryz.prog Tryz.f4 Rows.roomTasksRow.domain false) (Rows.roomTasksSpec.post enc Tryz.prog Tryz.f4 false true false false) := by
 refine returnsInHanded_of_change_sized (C := Tryz.checked) Lift.own started (by kernel_rfl) Tryz.func4
  (ChangeSpec.witness6 (enc := enc) (C := Tryz.checked) false ⟨#[], #[.agg #[.int .i64 0, .int .i64 0, .int .i64 0, .int .i64 0, .int .i64 0, .int .i64 0, .slice none 0 0, .slice none 0 0, .slice none 0 0, .int .i64 0, .int .i64 0, .int .i64 0, .int .i64 0, .bool false]], []⟩ 8 (by kernel_rfl) (by kernel_rfl) (by kernel_rfl) (by kernel_rfl)) ?_
 intro W base args ds gs before hval0 hW hcnd hsz0 _
 have hgs : gs = [] := by
  obtain ⟨_, _, _, hV, _⟩ := hW
  exact (trodVars_none hV).1
 subst hgs
 refine Lift.contract enc (tb := 4) isLaw (by kernel_rfl) (by kernel_rfl) Tryz.underlying4 W args ds [] before hW ?_
 intro p hA0
 have hval : ∀ (j : Nat) t v, Tryz.f4.params[j]? = some t → args[j]? = some v → Value.okWide Tryz.prog W .any base t v := hval0
 have hA : DataW.TrodAll enc Tryz.prog W 0 (fun _ => true) true Tryz.f4.params.toList args.toList ds p := hA0
 rw [Tryz.params4] at hA hval
 obtain ⟨v0, vs0, d0, ds0, p0, q0, hargs0, rfl, rfl, k0, hA1⟩ := trodAll_cons hA
 obtain ⟨rfl, rfl, rfl⟩ := trodAll_nil hA1
 obtain rfl : args = #[v0] := by cases args; simp_all
 obtain ⟨sh, ao, n, cap, f, aoh, nh, caph, aos, ns, caps, most, hand, index, colour, final, rfl, hnil, hs, hf, hix⟩ := open_job (hval 0 43 v0 rfl rfl) k0
 exact Rom.tasks_walk hs hnil hf hix
end RTasksLaw
theorem roomTasks_holds : Rows.RoomTasksSaid :=
 OpenClaim.holds_of_wide 4 Tryz.f4 rfl rfl rfl rfl rfl rfl rfl ⟨rfl, rfl, rfl, rfl, rfl⟩ rfl rfl rfl rfl rfl (by kernel_rfl) Tryz.func4 (by kernel_rfl)
  (of_decide_eq_true (by kernel_rfl)) (by unfold Func.isWrapper; first | (rw [if_pos (by decide +kernel)]; kernel_rfl) | (rw [if_neg (by decide +kernel)]; exact ⟨rfl, rfl⟩))
  (fun os started H enc _ => RTasksLaw.lifted os started H enc)
#print axioms roomTasks_holds
end
end Go.Proofs.YtppgbndoijppnaaGreat
