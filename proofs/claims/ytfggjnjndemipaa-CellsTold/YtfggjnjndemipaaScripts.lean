/-
  Proved: for every list of words and every list of acts the law CellsScripts of layer 2 answers true: Script tells the document's steps, words and error.
  Conditions: none beyond the given row's own.
-/
import Derived.Test.YtfggjnjndemipaaOpen
namespace Go.Proofs.Ytfggjnjndemipaa
namespace Scripts
open Go.ChangeShapes Go.WideShapes Go.ChangeAt Go.RowKit
set_option linter.unusedVariables false
set_option linter.unusedSimpArgs false

theorem drewN_below {w : World} (m : Nat) : Below w.heap.size w (w.drewN m) := ⟨rfl, rfl, rfl, Nat.le_refl _, fun _ _ => rfl⟩
theorem sees_none (w : World) (B : Nat) (ao : Option Addr) (f : Nat → Int) : Sees w B ao 0 f := fun j hj => absurd hj (Nat.not_lt_zero _)
theorem seesS_none (w : World) (B : Nat) (ao : Option Addr) (a : Nat → Stp) : SeesS w B ao 0 a := fun j hj => absurd hj (Nat.not_lt_zero _)

set_option maxHeartbeats 800000 in
theorem walk {w : World} {ao ao' : Option Addr} {n cap l cap' : Nat} {f : Nat → Int} {a : Nat → Stp} (h : Sees w w.heap.size ao n f) (hnil : ao = none → n = 0 ∧ cap = 0) (hf : ∀ i, i < n → 0 ≤ f i ∧ f i ≤ 18446744073709551615)
    (h' : SeesS w w.heap.size ao' l a) (hp : ∀ i, i < l → 0 ≤ (a i).put ∧ (a i).put ≤ 18446744073709551615) :
    Calls Try.prog 3 #[.slice ao n cap, .slice ao' l cap'] w fun e w' => e = .returned (.bool true) ∧ Below w.heap.size w w' := by
  have H := hide h
  have H' := hide h'
  have HF := hide hf
  have HP := hide hp
  have HN := hide hnil
  clear h h' hf hp hnil
  go_enter Try.func3, Try.ntmps3
  go_wp2_with fail
  refine (alive_any _).mono ?_
  rintro e w1 ⟨rfl, hb1⟩
  have B1 := hide hb1
  have hs1 := hb1.size
  clear hb1
  by_cases hl : 4096 < n ∨ 65536 < l
  · go_wp2_with fail
    refine (rscript_long hl).mono ?_
    rintro e w2 ⟨rfl, hw⟩
    obtain rfl := hw.symm
    go_wp2_with fail
    refine (script_long ((H.out.below B1.out (Nat.le_refl _)).mono hs1) HF.out hl).mono ?_
    rintro e w2 ⟨rfl, hb2⟩
    have B2 := hide (B1.out.trans (hb2.mono hs1))
    clear hb2
    go_wp2_with fail
    refine (same_steps (n := 0) (seesS_none _ 0 _ (fun _ => default)) (seesS_none _ 0 _ (fun _ => default)) (fun _ _ => rfl) (by omega)).mono ?_
    rintro e w3 ⟨rfl, m, rfl⟩
    go_wp2_with fail
    refine (same_words (n := 0) (sees_none _ 0 _ (fun _ => 0)) (sees_none _ 0 _ (fun _ => 0)) (fun _ _ => rfl) (by omega)).mono ?_
    rintro e w3 ⟨rfl, m', rfl⟩
    go_wp2
    go_ret
    exact ⟨rfl, B2.out.trans ((drewN_below _).mono B2.out.size)⟩
  · have hn : n ≤ 4096 := by omega
    have hll : l ≤ 65536 := by omega
    go_wp2_with fail
    refine (rscript_any ((H.out.below B1.out (Nat.le_refl _)).mono hs1) HN.out HF.out hn ((H'.out.below B1.out (Nat.le_refl _)).mono hs1) hll HP.out).mono ?_
    rintro e w2 ⟨aos, caps, gw, capw, rfl, hss, hr, hb2, _⟩
    have B2 := hide (B1.out.trans (hb2.mono hs1))
    have hs2 := B2.out.size
    have HSS := hide hss
    have HR := hide hr
    clear hb2 hss hr
    go_wp2_with fail
    refine (script_any ((H.out.below B2.out (Nat.le_refl _)).mono hs2) HF.out hn ((H'.out.below B2.out (Nat.le_refl _)).mono hs2) hll HP.out).mono ?_
    rintro e w3 ⟨gs, gw', rfl, hst, hr3, hb3, _, _⟩
    have B3 := hide (B2.out.trans (hb3.mono hs2))
    have hs3 := B3.out.size
    have HS3 := hide (hst.sees)
    have HR3 := hide hr3
    have HSS3 := hide (HSS.out.below hb3 (Nat.le_refl _))
    have HRR3 := hide (HR.out.below hb3)
    clear hst hr3 hb3
    go_wp2_with fail
    refine (same_steps HS3.out HSS3.out (fun _ _ => rfl) (by omega)).mono ?_
    rintro e w4 ⟨rfl, m, rfl⟩
    go_wp2_with fail
    refine (same_words (HR3.out.below (drewN_below m)).sees (HRR3.out.below (drewN_below m)).sees (fun _ _ => rfl) (by omega)).mono ?_
    rintro e w4 ⟨rfl, m', rfl⟩
    go_wp2
    go_ret
    exact ⟨rfl, B3.out.trans ((drewN_below _).mono B3.out.size)⟩

theorem list2 {α : Type} {l : List α} (h : l.length = 2) : ∃ a b, l = [a, b] := by
  match l, h with
  | [a, b], _ => exact ⟨a, b, rfl⟩

theorem isLaw : Lift.IsLaw Rows.cellsScriptsSpec 2 := ⟨rfl, fun H ds h => by obtain ⟨a, b, rfl⟩ := list2 h; rfl⟩

set_option maxRecDepth 100000 in
theorem lifted (os : Os) (started : os.Started) (H : Type) (enc : TypeId × Value → H) :
    ReturnsInHanded {} Try.checked os 3 .any (Rows.cellsScriptsSpec.pre6 enc Try.prog Try.f3 Rows.cellsScriptsRow.domain false) (Rows.cellsScriptsSpec.post enc Try.prog Try.f3 false true false false) := by
  refine returnsInHanded_of_change_sized (C := Try.checked) Lift.own started (by kernel_rfl) Try.func3
    (ChangeSpec.witness6 (enc := enc) (C := Try.checked) false ⟨#[], #[.slice none 0 0, .slice none 0 0], []⟩ 8 (by kernel_rfl) (by kernel_rfl) (by kernel_rfl) (by kernel_rfl)) ?_
  intro W base args ds gs before hval0 hW hcnd hsz0 _
  have hgs : gs = [] := by
    obtain ⟨_, _, _, hV, _⟩ := hW
    exact (trodVars_none hV).1
  subst hgs
  refine Lift.contract enc (tb := 4) isLaw (by kernel_rfl) (by kernel_rfl) Try.underlying4 W args ds [] before hW ?_
  intro p hA0
  have hval : ∀ (j : Nat) t v, Try.f3.params[j]? = some t → args[j]? = some v → Value.okWide Try.prog W .any base t v := hval0
  have hA : DataW.TrodAll enc Try.prog W 0 (fun _ => true) true Try.f3.params.toList args.toList ds p := hA0
  rw [Try.params3] at hA hval
  obtain ⟨v0, v1, d0, d1, p0, p1, hargs, rfl, rfl, k0, k1⟩ := trodAll_two hA
  obtain rfl : args = #[v0, v1] := by cases args; simp_all
  obtain ⟨ao, n, cap, f, rfl, hnil, _, hs, hf, _⟩ := open_words (hval 0 22 v0 rfl rfl) k0
  obtain ⟨ao', l, cap', a, rfl, _, _, hs', ha, _⟩ := open_acts (hval 1 23 v1 rfl rfl) k1
  exact walk hs hnil hf hs' (fun i hi => (ha i hi).2)
end Scripts

theorem cellsScripts_holds : Rows.CellsScriptsSaid :=
  OpenClaim.holds_of_wide 3 Try.f3 rfl rfl rfl rfl rfl rfl rfl ⟨rfl, rfl, rfl, rfl, rfl⟩ rfl rfl rfl rfl rfl (by kernel_rfl) Try.func3 (by kernel_rfl)
    (of_decide_eq_true (by kernel_rfl)) (by unfold Func.isWrapper; first | (rw [if_pos (by decide +kernel)]; kernel_rfl) | (rw [if_neg (by decide +kernel)]; exact ⟨rfl, rfl⟩))
    (fun os started H enc _ => Scripts.lifted os started H enc)
#print axioms cellsScripts_holds
end Go.Proofs.Ytfggjnjndemipaa
