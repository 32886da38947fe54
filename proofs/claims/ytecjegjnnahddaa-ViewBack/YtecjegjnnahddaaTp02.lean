/-
  ViewBack: whatever shape, words and view are handed in, what the package's Lay lays of the view is seen by its Look as the view; what Look sees of the words is laid by Lay, and seen again the same, as many words as before, and sound where they were sound; where there is an error there is no view and there are no words beside it, and Check tells the same error. The law ViewBack of layer 13 answers true.
  Conditions: none beyond the given row's own.
-/
import Derived.Test.YtecjegjnnahddaaTp30
/-
  ViewBack: whatever shape, words and view are handed in, what the package's Lay lays of the view is seen by its Look as the view; what Look sees of the words is laid by Lay, and seen again the same, as many words as before, and sound where they were sound; where there is an error there is no view and there are no words beside it, and Check tells the same error. The law ViewBack of layer 13 answers true.
  Conditions: none beyond the given row's own.
-/
namespace Go.Proofs.Ytecjegjnnahddaa
open Go.ChangeShapes Go.WideShapes Go.ChangeAt Go.RowKit Go.Deep
set_option linter.unusedVariables false
set_option linter.unusedSimpArgs false
set_option maxRecDepth 100000
namespace VBackLaw

theorem list3'' {α : Type} {l : List α} (h : l.length = 3) : ∃ a b c, l = [a, b, c] := by
  match l, h with
  | [a, b, c], _ => exact ⟨a, b, c, rfl⟩
theorem list6'' {α : Type} {l : List α} (h : l.length = 6) : ∃ a b c d e f, l = [a, b, c, d, e, f] := by
  match l, h with
  | [a, b, c, d, e, f], _ => exact ⟨a, b, c, d, e, f, rfl⟩
theorem ncellsSh : Try.prog.cellsOf 23 = 6 := by kernel_rfl
set_option maxRecDepth 4000 in
theorem shape_t {H : Type} {enc : TypeId × Value → H} {W : World} {fuel : Nat} {cs : List Value} {x : DataW H × List MemPlace} (hl : cs.length = 6) (hf : DataW.trod enc Try.prog W 0 (fun _ => true) true fuel 23 cs = some x) :
    ∃ s0 s1 s2 s3 s4 s5 : Int, cs = [.int .i64 s0, .int .i64 s1, .int .i64 s2, .int .i64 s3, .int .i64 s4, .int .i64 s5] := by
  obtain ⟨c0, c1, c2, c3, c4, c5, rfl⟩ := list6'' hl
  obtain ⟨xs, m, _, hx, _, hl, hel⟩ := DataW.trod_struct Try.underlying23 hf
  obtain ⟨y0, y1, y2, y3, y4, y5, rfl⟩ := list6'' hl
  have q0 := hel 0 _ rfl
  have q1 := hel 1 _ rfl
  have q2 := hel 2 _ rfl
  have q3 := hel 3 _ rfl
  have q4 := hel 4 _ rfl
  have q5 := hel 5 _ rfl
  simp [Vw.ncells3, Value.cells] at q0 q1 q2 q3 q4 q5
  obtain ⟨h0, e0, _, _⟩ := DataW.trod_int Try.underlying3 q0
  obtain ⟨h1, e1, _, _⟩ := DataW.trod_int Try.underlying3 q1
  obtain ⟨h2, e2, _, _⟩ := DataW.trod_int Try.underlying3 q2
  obtain ⟨h3, e3, _, _⟩ := DataW.trod_int Try.underlying3 q3
  obtain ⟨h4, e4, _, _⟩ := DataW.trod_int Try.underlying3 q4
  obtain ⟨h5, e5, _, _⟩ := DataW.trod_int Try.underlying3 q5
  simp at e0 e1 e2 e3 e4 e5
  subst e0 e1 e2 e3 e4 e5
  exact ⟨h0, h1, h2, h3, h4, h5, rfl⟩
set_option maxRecDepth 4000 in
theorem open_shape {H : Type} {enc : TypeId × Value → H} {W : World} {base : Nat} {v : Value} {d : DataW H} {p : List MemPlace} (hv : Value.okWide Try.prog W .any base 23 v) (h : DataW.Trod enc Try.prog W 0 (fun _ => true) true 23 v d p) :
    ∃ s0 s1 s2 s3 s4 s5 : Int, v = .agg #[.int .i64 s0, .int .i64 s1, .int .i64 s2, .int .i64 s3, .int .i64 s4, .int .i64 s5] := by
  obtain ⟨cs, rfl, hsz⟩ := okWide_struct Try.underlying23 hv
  rw [ncellsSh] at hsz
  obtain ⟨l⟩ := cs
  obtain ⟨fuel, hf⟩ := h
  obtain ⟨s0, s1, s2, s3, s4, s5, e0⟩ := shape_t (cs := l) (by simpa using hsz) (by simpa [Value.cells] using hf)
  subst e0
  exact ⟨s0, s1, s2, s3, s4, s5, rfl⟩

theorem isLaw : Lift.IsLaw Rows.viewBackSpec 3 := ⟨rfl, fun H ds h => by obtain ⟨a, b, c, rfl⟩ := list3'' h; rfl⟩

theorem lifted (os : Os) (started : os.Started) (H : Type) (enc : TypeId × Value → H) :
    ReturnsInHanded {} Try.checked os 5 .any (Rows.viewBackSpec.pre6 enc Try.prog Try.f5 Rows.viewBackRow.domain false) (Rows.viewBackSpec.post enc Try.prog Try.f5 false true false false) := by
  refine returnsInHanded_of_change_sized (C := Try.checked) Lift.own started (by kernel_rfl) Try.func5
    (ChangeSpec.witness6 (enc := enc) (C := Try.checked) false ⟨#[], #[.agg #[.int .i64 0, .int .i64 0, .int .i64 0, .int .i64 0, .int .i64 0, .int .i64 0], .slice none 0 0, .agg #[.int .i64 0, .int .i64 0, .int .u64 0, .slice none 0 0, .slice none 0 0, .slice none 0 0, .slice none 0 0, .slice none 0 0, .slice none 0 0, .slice none 0 0, .int .u64 0, .int .u64 0, .int .u64 0, .int .u64 0]], []⟩ 8 (by kernel_rfl) (by kernel_rfl) (by kernel_rfl) (by kernel_rfl)) ?_
  intro W base args ds gs before hval0 hW hcnd hsz0 _
  have hgs : gs = [] := by
    obtain ⟨_, _, _, hV, _⟩ := hW
    exact (trodVars_none hV).1
  subst hgs
  refine Lift.contract enc (tb := 4) isLaw (by kernel_rfl) (by kernel_rfl) Try.underlying4 W args ds [] before hW ?_
  intro p hA0
  have hval : ∀ (j : Nat) t v, Try.f5.params[j]? = some t → args[j]? = some v → Value.okWide Try.prog W .any base t v := hval0
  have hA : DataW.TrodAll enc Try.prog W 0 (fun _ => true) true Try.f5.params.toList args.toList ds p := hA0
  rw [Try.params5] at hA hval
  obtain ⟨v0, vs0, d0, ds0, p0, q0, hargs0, rfl, rfl, k0, hA1⟩ := trodAll_cons hA
  obtain ⟨v1, vs1, d1, ds1, p1, q1, hargs1, rfl, rfl, k1, hA2⟩ := trodAll_cons hA1
  obtain ⟨v2, vs2, d2, ds2, p2, q2, hargs2, rfl, rfl, k2, hA3⟩ := trodAll_cons hA2
  obtain ⟨rfl, rfl, rfl⟩ := trodAll_nil hA3
  obtain rfl : args = #[v0, v1, v2] := by cases args; simp_all
  obtain ⟨s0, s1, s2, s3, s4, s5, rfl⟩ := open_shape (hval 0 23 v0 rfl rfl) k0
  obtain ⟨f1, hf1⟩ := k1
  obtain ⟨ao, m, cap, f, rfl, hnil, hmx, hs, hfb⟩ := Vw.open_words (hval 1 24 v1 rfl rfl) ⟨f1, hf1⟩
  have hlc := Vw.len_cap Try.underlying24 hf1
  obtain ⟨f2, hf2⟩ := k2
  obtain ⟨cs, rfl, hcs⟩ := okWide_struct Try.underlying33 (hval 2 33 v2 rfl rfl)
  rw [Vw.To.nc_v] at hcs
  obtain ⟨c, a, hc, hS, hB, hL⟩ := Vw.To.tr_view (cs := cs.toList) (by simpa using hcs) hf2
  rw [show Value.agg cs = Vw.vl c a by rw [← hc]]
  exact Vw.back_all hs hnil hlc (fun i hi => ⟨(hfb i hi).1, by have := (hfb i hi).2; omega⟩) hS hB hL
end VBackLaw

theorem viewBack_holds : Rows.ViewBackSaid :=
  OpenClaim.holds_of_wide 5 Try.f5 rfl rfl rfl rfl rfl rfl rfl ⟨rfl, rfl, rfl, rfl, rfl⟩ rfl rfl rfl rfl rfl (by kernel_rfl) Try.func5 (by kernel_rfl)
    (of_decide_eq_true (by kernel_rfl)) (by unfold Func.isWrapper; first | (rw [if_pos (by decide +kernel)]; kernel_rfl) | (rw [if_neg (by decide +kernel)]; exact ⟨rfl, rfl⟩))
    (fun os started H enc _ => VBackLaw.lifted os started H enc)
#print axioms viewBack_holds
end Go.Proofs.Ytecjegjnnahddaa
