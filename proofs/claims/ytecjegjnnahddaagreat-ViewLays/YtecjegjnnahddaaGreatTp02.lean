/-
  ViewLays: whatever shape and view are handed in, the package's Lay tells the document's words and error, twice; the view stays as it is, the marks behind its lists too; and the words are memory of their own: written over, the second answer stays. The law ViewLays of layer 13 answers true.
  Conditions: none beyond the given row's own.
-/
import Derived.Test.YtecjegjnnahddaaGreatTp35
/-
  ViewLays: whatever shape and view are handed in, the package's Lay tells the document's words and error, twice; the view stays as it is, the marks behind its lists too; and the words are memory of their own: written over, the second answer stays. The law ViewLays of layer 13 answers true.
  Conditions: none beyond the given row's own.
-/
namespace Go.Proofs.YtecjegjnnahddaaGreat
open Go.ChangeShapes Go.WideShapes Go.ChangeAt Go.RowKit Go.Deep
set_option linter.unusedVariables false
set_option linter.unusedSimpArgs false
set_option maxRecDepth 100000
namespace VLaysLaw

theorem list2'' {α : Type} {l : List α} (h : l.length = 2) : ∃ a b, l = [a, b] := by
  match l, h with
  | [a, b], _ => exact ⟨a, b, rfl⟩
theorem list6'' {α : Type} {l : List α} (h : l.length = 6) : ∃ a b c d e f, l = [a, b, c, d, e, f] := by
  match l, h with
  | [a, b, c, d, e, f], _ => exact ⟨a, b, c, d, e, f, rfl⟩
theorem ncellsSh : Tryz.prog.cellsOf 23 = 6 := by kernel_rfl
set_option maxRecDepth 4000 in
theorem shape_t {H : Type} {enc : TypeId × Value → H} {W : World} {fuel : Nat} {cs : List Value} {x : DataW H × List MemPlace} (hl : cs.length = 6) (hf : DataW.trod enc Tryz.prog W 0 (fun _ => true) true fuel 23 cs = some x) :
    ∃ s0 s1 s2 s3 s4 s5 : Int, cs = [.int .i64 s0, .int .i64 s1, .int .i64 s2, .int .i64 s3, .int .i64 s4, .int .i64 s5] := by
  obtain ⟨c0, c1, c2, c3, c4, c5, rfl⟩ := list6'' hl
  obtain ⟨xs, m, _, hx, _, hl, hel⟩ := DataW.trod_struct Tryz.underlying23 hf
  obtain ⟨y0, y1, y2, y3, y4, y5, rfl⟩ := list6'' hl
  have q0 := hel 0 _ rfl
  have q1 := hel 1 _ rfl
  have q2 := hel 2 _ rfl
  have q3 := hel 3 _ rfl
  have q4 := hel 4 _ rfl
  have q5 := hel 5 _ rfl
  simp [Vw.Tw.nc_i, Value.cells] at q0 q1 q2 q3 q4 q5
  obtain ⟨h0, e0, _, _⟩ := DataW.trod_int Tryz.underlying3 q0
  obtain ⟨h1, e1, _, _⟩ := DataW.trod_int Tryz.underlying3 q1
  obtain ⟨h2, e2, _, _⟩ := DataW.trod_int Tryz.underlying3 q2
  obtain ⟨h3, e3, _, _⟩ := DataW.trod_int Tryz.underlying3 q3
  obtain ⟨h4, e4, _, _⟩ := DataW.trod_int Tryz.underlying3 q4
  obtain ⟨h5, e5, _, _⟩ := DataW.trod_int Tryz.underlying3 q5
  simp at e0 e1 e2 e3 e4 e5
  subst e0 e1 e2 e3 e4 e5
  exact ⟨h0, h1, h2, h3, h4, h5, rfl⟩
set_option maxRecDepth 4000 in
theorem open_shape {H : Type} {enc : TypeId × Value → H} {W : World} {base : Nat} {v : Value} {d : DataW H} {p : List MemPlace} (hv : Value.okWide Tryz.prog W .any base 23 v) (h : DataW.Trod enc Tryz.prog W 0 (fun _ => true) true 23 v d p) :
    ∃ s0 s1 s2 s3 s4 s5 : Int, v = .agg #[.int .i64 s0, .int .i64 s1, .int .i64 s2, .int .i64 s3, .int .i64 s4, .int .i64 s5] := by
  obtain ⟨cs, rfl, hsz⟩ := okWide_struct Tryz.underlying23 hv
  rw [ncellsSh] at hsz
  obtain ⟨l⟩ := cs
  obtain ⟨fuel, hf⟩ := h
  obtain ⟨s0, s1, s2, s3, s4, s5, e0⟩ := shape_t (cs := l) (by simpa using hsz) (by simpa [Value.cells] using hf)
  subst e0
  exact ⟨s0, s1, s2, s3, s4, s5, rfl⟩

theorem isLaw : Lift.IsLaw Rows.viewLaysSpec 2 := ⟨rfl, fun H ds h => by obtain ⟨a, b, rfl⟩ := list2'' h; rfl⟩

theorem lifted (os : Os) (started : os.Started) (H : Type) (enc : TypeId × Value → H) :
    ReturnsInHanded {} Tryz.checked os 3 .any (Rows.viewLaysSpec.pre6 enc Tryz.prog Tryz.f3 Rows.viewLaysRow.domain false) (Rows.viewLaysSpec.post enc Tryz.prog Tryz.f3 false true false false) := by
  refine returnsInHanded_of_change_sized (C := Tryz.checked) Lift.own started (by kernel_rfl) Tryz.func3
    (ChangeSpec.witness6 (enc := enc) (C := Tryz.checked) false ⟨#[], #[.agg #[.int .i64 0, .int .i64 0, .int .i64 0, .int .i64 0, .int .i64 0, .int .i64 0], .agg #[.int .i64 0, .int .i64 0, .int .u64 0, .slice none 0 0, .slice none 0 0, .slice none 0 0, .slice none 0 0, .slice none 0 0, .slice none 0 0, .slice none 0 0, .int .u64 0, .int .u64 0, .int .u64 0, .int .u64 0]], []⟩ 8 (by kernel_rfl) (by kernel_rfl) (by kernel_rfl) (by kernel_rfl)) ?_
  intro W base args ds gs before hval0 hW hcnd hsz0 _
  have hgs : gs = [] := by
    obtain ⟨_, _, _, hV, _⟩ := hW
    exact (trodVars_none hV).1
  subst hgs
  refine Lift.contract enc (tb := 4) isLaw (by kernel_rfl) (by kernel_rfl) Tryz.underlying4 W args ds [] before hW ?_
  intro p hA0
  have hval : ∀ (j : Nat) t v, Tryz.f3.params[j]? = some t → args[j]? = some v → Value.okWide Tryz.prog W .any base t v := hval0
  have hA : DataW.TrodAll enc Tryz.prog W 0 (fun _ => true) true Tryz.f3.params.toList args.toList ds p := hA0
  rw [Tryz.params3] at hA hval
  obtain ⟨v0, vs0, d0, ds0, p0, q0, hargs0, rfl, rfl, k0, hA1⟩ := trodAll_cons hA
  obtain ⟨v1, vs1, d1, ds1, p1, q1, hargs1, rfl, rfl, k1, hA2⟩ := trodAll_cons hA1
  obtain ⟨rfl, rfl, rfl⟩ := trodAll_nil hA2
  obtain rfl : args = #[v0, v1] := by cases args; simp_all
  have wt : ∀ (j : Nat) (t : TypeId) (d : DataW H), [23, 31][j]? = some t → [d0, d1][j]? = some d → ∀ q ∈ d.weights Tryz.prog t, q ≤ reachBytes := fun j t d h1 h2 q hq => by
    have hm := DataW.weights_mem_each (ts := Tryz.f3.params.toList ++ Rows.viewLaysSpec.plain.varTypes Tryz.prog) (ds := [d0, d1] ++ []) (j := j) (t := t) (d := d) (by rw [Tryz.params3]; rw [List.getElem?_append_left (by have := (List.getElem?_eq_some_iff.1 h1).1; simpa using this)]; exact h1) (by simpa using h2) q hq
    have := List.all_eq_true.1 hsz0 q hm
    simpa using this
  have hR : reachBytes + 4096 ≤ 140737488355328 := by decide
  obtain ⟨s0, s1, s2, s3, s4, s5, rfl⟩ := open_shape (hval 0 23 v0 rfl rfl) k0
  obtain ⟨f1, hf1⟩ := k1
  obtain ⟨cs, rfl, hcs⟩ := okWide_struct Tryz.underlying31 (hval 1 31 v1 rfl rfl)
  rw [Vw.Tw.nc_v] at hcs
  obtain ⟨c, a, hc, hS, hB, hN, hT⟩ := Vw.Tw.tr_view (cs := cs.toList) (by simpa using hcs) hf1
  rw [show Value.agg cs = Vw.vl c a by rw [← hc]]
  exact Vw.lays_all hS hN (hT reachBytes hR (wt 1 _ d1 rfl rfl)) hB
end VLaysLaw

theorem viewLays_holds : Rows.ViewLaysSaid :=
  OpenClaim.holds_of_wide 3 Tryz.f3 rfl rfl rfl rfl rfl rfl rfl ⟨rfl, rfl, rfl, rfl, rfl⟩ rfl rfl rfl rfl rfl (by kernel_rfl) Tryz.func3 (by kernel_rfl)
    (of_decide_eq_true (by kernel_rfl)) (by unfold Func.isWrapper; first | (rw [if_pos (by decide +kernel)]; kernel_rfl) | (rw [if_neg (by decide +kernel)]; exact ⟨rfl, rfl⟩))
    (fun os started H enc _ => VLaysLaw.lifted os started H enc)
#print axioms viewLays_holds
end Go.Proofs.YtecjegjnnahddaaGreat
