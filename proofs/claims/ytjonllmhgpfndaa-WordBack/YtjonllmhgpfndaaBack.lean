/-
  Proved: for every word, every object and every two numbers the law WordBack of layer 1 answers true: words are told by their halves, what is packed is unpacked, what is a moment has its parts, a bumped head is another word with that index and the next tag.
  Conditions: none beyond the given row's own.
-/
import Derived.Test.YtjonllmhgpfndaaBackB
import Derived.Test.YtjonllmhgpfndaaOpen
namespace Go.Proofs.Ytjonllmhgpfndaa
namespace Back
open Go.ChangeShapes Go.WideShapes Go.ChangeAt Go.RowKit
set_option linter.unusedVariables false

theorem cells48 : Try.prog.cellsOf 48 = 2 := by kernel_rfl

theorem list3 {α : Type} {l : List α} (h : l.length = 3) : ∃ a b c, l = [a, b, c] := by
  match l, h with
  | [a, b, c], _ => exact ⟨a, b, c, rfl⟩
theorem list2 {α : Type} {l : List α} (h : l.length = 2) : ∃ a b, l = [a, b] := by
  match l, h with
  | [a, b], _ => exact ⟨a, b, rfl⟩

theorem isLaw : Lift.IsLaw Rows.wordBackSpec 3 := ⟨rfl, fun H ds h => by obtain ⟨a, b, c, rfl⟩ := list3 h; rfl⟩

theorem open_pair {H : Type} {enc : TypeId × Value → H} {W : World} {base : Nat} {v : Value} {d : DataW H} {p : List MemPlace}
    (hv : Value.okWide Try.prog W .any base 48 v) (h : DataW.Trod enc Try.prog W 0 (fun _ => true) true 48 v d p) :
    ∃ l m : Int, v = .agg #[.int .i64 l, .int .i64 m] := by
  obtain ⟨cs, rfl, hsz, _⟩ : ∃ cs, v = .agg cs ∧ cs.size = Try.prog.cellsOf 48 ∧ Row.okWide Try.prog W .any base 48 cs := by
    simpa [Value.okWide, Try.underlying48] using hv
  rw [cells48] at hsz
  obtain ⟨l⟩ := cs
  obtain ⟨c0, c1, rfl⟩ := list2 hsz
  obtain ⟨fuel, hf⟩ := h
  obtain ⟨xs, m, _, hx, _, hl, hel⟩ := DataW.trod_array Try.underlying48 hf
  obtain ⟨y0, y1, rfl⟩ := list2 hl
  have q0 := hel 0 (by omega)
  have q1 := hel 1 (by omega)
  simp [cells3, Value.cells] at q0 q1
  obtain ⟨n0, e0, rfl, _⟩ := DataW.trod_int Try.underlying3 q0
  obtain ⟨n1, e1, rfl, _⟩ := DataW.trod_int Try.underlying3 q1
  simp at e0 e1
  subst e0 e1
  exact ⟨n0, n1, rfl⟩

set_option maxRecDepth 100000 in
theorem lifted (os : Os) (started : os.Started) (H : Type) (enc : TypeId × Value → H) :
    ReturnsInHanded {} Try.checked os 6 .any (Rows.wordBackSpec.pre6 enc Try.prog Try.f6 Rows.wordBackRow.domain false) (Rows.wordBackSpec.post enc Try.prog Try.f6 false true false false) := by
  refine returnsInHanded_of_change (C := Try.checked) Lift.own started (by kernel_rfl) Try.func6
    (ChangeSpec.witness6 (enc := enc) (C := Try.checked) false ⟨#[], #[.int .u64 0, .agg #[.bool false, .bool false, .bool false, .bool false, .int .i64 0, .int .u64 0, .int .u64 0, .int .u64 0, .slice none 0 0], .agg #[.int .i64 0, .int .i64 0]], []⟩ 8 (by kernel_rfl) (by kernel_rfl) (by kernel_rfl) (by kernel_rfl)) ?_
  intro W base args ds gs before hval0 hW hcnd _
  refine Lift.contract enc (tb := 4) isLaw (by kernel_rfl) (by kernel_rfl) Try.underlying4 W args ds gs before hW ?_
  intro p hA0
  have hval : ∀ (j : Nat) t v, Try.f6.params[j]? = some t → args[j]? = some v → Value.okWide Try.prog W .any base t v := hval0
  have hA : DataW.TrodAll enc Try.prog W 0 (fun _ => true) true Try.f6.params.toList args.toList ds p := hA0
  rw [Try.params6] at hA hval
  obtain ⟨v0, v1, v2, d0, d1, d2, p0, p1, p2, hargs, rfl, rfl, k0, k1, k2⟩ := trodAll_three hA
  obtain rfl : args = #[v0, v1, v2] := by cases args; simp_all
  obtain ⟨a0, rfl, rfl, rfl, w0⟩ := open_int Try.underlying22 (hval 0 22 v0 rfl rfl) k0
  obtain ⟨used, live, final, taken, age, gen, link, next, ao, len, cap, zs, sl, rfl, rfl, _, bg, _⟩ := open_object (hval 1 31 v1 rfl rfl) k1
  obtain ⟨l, m, rfl⟩ := open_pair (hval 2 48 v2 rfl rfl) k2
  have b0 := bounds_u64 w0
  exact walk a0 used live final taken age gen link next l m _ b0.1 (by omega) bg.1 W
end Back

theorem wordBack_holds : Rows.WordBackSaid :=
  OpenClaim.holds_of_wide 6 Try.f6 rfl rfl rfl rfl rfl rfl rfl ⟨rfl, rfl, rfl, rfl, rfl⟩ rfl rfl rfl rfl rfl (by kernel_rfl) Try.func6 (by kernel_rfl)
    (of_decide_eq_true (by kernel_rfl)) (by unfold Func.isWrapper; first | (rw [if_pos (by decide +kernel)]; kernel_rfl) | (rw [if_neg (by decide +kernel)]; exact ⟨rfl, rfl⟩))
    (fun os started H enc _ => Back.lifted os started H enc)
#print axioms wordBack_holds
end Go.Proofs.Ytjonllmhgpfndaa
