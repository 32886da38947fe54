/-
  RoomNothingLost: whatever shape, words, hands, schedule and bound are handed in: where the shape is right, the run from Fresh is told and has ended, and each Back goes to an object that its hand has made and not given back, the free list holds just the objects that are not in use, each once; the words Allocated and Freed hold how many were made and given back by the answers; and their difference is how many are in use. The law answers true, and the input reads as it did. No condition beyond the row's.
-/
import Derived.Test.YtidihnnmdmlgfaaGreatTq54
import Derived.Test.YtidihnnmdmlgfaaGreatTq55
namespace Go.Proofs.YtidihnnmdmlgfaaGreat
set_option maxHeartbeats 8000000
set_option linter.unusedVariables false
set_option linter.unusedSimpArgs false
section
open Go.ChangeShapes Go.WideShapes Go.ChangeAt Go.RowKit Go.Deep
set_option maxRecDepth 100000
namespace RNothingLaw
theorem list1' {α : Type} {l : List α} (h : l.length = 1) : ∃ a, l = [a] := by
  match l, h with
  | [a], _ => exact ⟨a, rfl⟩
theorem isLaw : Lift.IsLaw Rows.roomNothingLostSpec 1 := ⟨rfl, fun H ds h => by obtain ⟨a, rfl⟩ := list1' h; rfl⟩
theorem lifted (os : Os) (started : os.Started) (H : Type) (enc : TypeId × Value → H) :
    ReturnsInHanded {} Tryz.checked os 4 .any (Rows.roomNothingLostSpec.pre6 enc Tryz.prog Tryz.f4 Rows.roomNothingLostRow.domain false) (Rows.roomNothingLostSpec.post enc Tryz.prog Tryz.f4 false true false false) := by
  refine returnsInHanded_of_change_sized (C := Tryz.checked) Lift.own started (by kernel_rfl) Tryz.func4
    (ChangeSpec.witness6 (enc := enc) (C := Tryz.checked) false ⟨#[], #[.agg #[.int .i64 0, .int .i64 0, .int .i64 0, .int .i64 0, .int .i64 0, .int .i64 0, .slice none 0 0, .slice none 0 0, .slice none 0 0, .int .i64 0]], []⟩ 8 (by kernel_rfl) (by kernel_rfl) (by kernel_rfl) (by kernel_rfl)) ?_
  intro W base args ds gs before hval0 hW hcnd hsz0 _
  have hgs : gs = [] := by
    obtain ⟨_, _, _, hV, _⟩ := hW
    exact (trodVars_none hV).1
  subst hgs
  refine Lift.contract enc (tb := 4) isLaw (by kernel_rfl) (by kernel_rfl) Tryz.underlying4 W args ds [] before hW ?_
  intro p hA0
  have hval : ∀ (j : Nat) t v, Tryz.f4.params[j]? = some t → args[j]? = some v → Value.okWide Tryz.prog W .any base t v := hval0
  have hA : DataW.TrodAll enc Tryz.prog W 0 (fun _ => true) true Tryz.f4.params.toList args.toList ds p := hA0
  rw [Tryz.params4] at hA hval
  obtain ⟨v0, vs0, d0, ds0, p0, q0, hargs0, rfl, rfl, k0, hA1⟩ := trodAll_cons hA
  obtain ⟨rfl, rfl, rfl⟩ := trodAll_nil hA1
  obtain rfl : args = #[v0] := by cases args; simp_all
  have hz : ∀ q ∈ d0.weights Tryz.prog 28, q ≤ reachBytes := fun q hq => by
    have hm := DataW.weights_mem_each (ts := Tryz.f4.params.toList ++ Rows.roomNothingLostSpec.plain.varTypes Tryz.prog) (ds := [d0] ++ []) (j := 0) (t := 28) (d := d0) (by rw [Tryz.params4]; rfl) rfl q hq
    have := List.all_eq_true.1 hsz0 q hm
    simpa using this
  have hR : reachBytes + 4096 ≤ 140737488355328 := by decide
  obtain ⟨sh, ao, n, cap, f, aoh, nh, caph, jn, jb, aos, ns, caps, sch, most, rfl, hnil, hs, hf, hh, hjw, hi, hni, hnh, z1, z2, z3, z4⟩ := L17.open_runK (hval 0 28 v0 rfl rfl) k0 hz
  exact Rom.nothing_walk (nw := n) (P := ⟨(Rom.sizeOf sh).toNat, nh, jn, jb, ns, sch⟩) (fun h5 => by obtain ⟨want, h1, _⟩ := Rom.size_nat h5; simp only; omega) hh (by simp only; omega) hi hjw
end RNothingLaw
theorem roomNothingLost_holds : Rows.RoomNothingLostSaid :=
  OpenClaim.holds_of_wide 4 Tryz.f4 rfl rfl rfl rfl rfl rfl rfl ⟨rfl, rfl, rfl, rfl, rfl⟩ rfl rfl rfl rfl rfl (by kernel_rfl) Tryz.func4 (by kernel_rfl)
    (of_decide_eq_true (by kernel_rfl)) (by unfold Func.isWrapper; first | (rw [if_pos (by decide +kernel)]; kernel_rfl) | (rw [if_neg (by decide +kernel)]; exact ⟨rfl, rfl⟩))
    (fun os started H enc _ => RNothingLaw.lifted os started H enc)
#print axioms roomNothingLost_holds
end
end Go.Proofs.YtidihnnmdmlgfaaGreat
