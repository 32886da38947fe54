/-
  An api.Object that came in, opened: its fields, and its slots as a row of words.
-/
import Derived.Test.YtjonllmhgpfndaaLift
import Derived.SizedLaws
namespace Go.Proofs.Ytjonllmhgpfndaa
open Go.ChangeShapes Go.WideShapes Go.ChangeAt Go.RowKit
set_option linter.unusedVariables false

theorem cells31 : Try.prog.cellsOf 31 = 9 := by kernel_rfl
theorem cells4 : Try.prog.cellsOf 4 = 1 := by kernel_rfl
theorem cells3 : Try.prog.cellsOf 3 = 1 := by kernel_rfl
theorem cells22 : Try.prog.cellsOf 22 = 1 := by kernel_rfl
theorem cells29 : Try.prog.cellsOf 29 = 1 := by kernel_rfl
theorem bytes22 : Try.prog.bytesOf 22 = 8 := by kernel_rfl

theorem list9 {α : Type} {l : List α} (h : l.length = 9) : ∃ a b c d e f g i j, l = [a, b, c, d, e, f, g, i, j] := by
  match l, h with
  | [a, b, c, d, e, f, g, i, j], _ => exact ⟨a, b, c, d, e, f, g, i, j, rfl⟩

set_option maxRecDepth 4000 in
theorem open_object {H : Type} {enc : TypeId × Value → H} {W : World} {base : Nat} {v : Value} {d : DataW H} {p : List MemPlace}
    (hv : Value.okWide Try.prog W .any base 31 v) (h : DataW.Trod enc Try.prog W 0 (fun _ => true) true 31 v d p) :
    ∃ (used live final taken : Bool) (age gen link next : Int) (ao : Option Addr) (len cap : Nat) (zs : List Int) (sl : DataW H),
      v = .agg #[.bool used, .bool live, .bool final, .bool taken, .int .i64 age, .int .u64 gen, .int .u64 link, .int .u64 next, .slice ao len cap] ∧
      d = .agg [.lit (.bool used), .lit (.bool live), .lit (.bool final), .lit (.bool taken), .lit (.int .i64 age), .lit (.int .u64 gen), .lit (.int .u64 link), .lit (.int .u64 next), sl] ∧
      (-9223372036854775808 ≤ age ∧ age ≤ 9223372036854775807) ∧ (0 ≤ gen ∧ gen ≤ 18446744073709551615) ∧ (0 ≤ link ∧ link ≤ 18446744073709551615) ∧ (0 ≤ next ∧ next ≤ 18446744073709551615) ∧
      (ao = none → len = 0 ∧ cap = 0) ∧ zs.length = len ∧ (∀ n ∈ zs, 0 ≤ n ∧ n ≤ 18446744073709551615) ∧
      (∀ j, j < len → ∃ b off, ao = some ⟨b, off, none⟩ ∧ b < W.heap.size ∧ W.cell? ⟨b, off + j, none⟩ = some (.int .u64 (zs.getD j 0))) ∧
      (len = 0 ∨ ∃ elems spare, sl = .slice elems spare ∧ len ≤ elems.length + spare.length) := by
  obtain ⟨cs, rfl, hsz⟩ := okWide_struct Try.underlying31 hv
  rw [cells31] at hsz
  obtain ⟨l⟩ := cs
  obtain ⟨c0, c1, c2, c3, c4, c5, c6, c7, c8, rfl⟩ := list9 hsz
  have h' := h
  obtain ⟨fuel, hf⟩ := h
  obtain ⟨xs, m, _, hx, _, hl, hel⟩ := DataW.trod_struct Try.underlying31 hf
  obtain ⟨y0, y1, y2, y3, y4, y5, y6, y7, y8, rfl⟩ := list9 hl
  have q0 := hel 0 _ rfl
  have q1 := hel 1 _ rfl
  have q2 := hel 2 _ rfl
  have q3 := hel 3 _ rfl
  have q4 := hel 4 _ rfl
  have q5 := hel 5 _ rfl
  have q6 := hel 6 _ rfl
  have q7 := hel 7 _ rfl
  have q8 := hel 8 _ rfl
  simp [cells4, cells3, cells22, cells29, Value.cells] at q0 q1 q2 q3 q4 q5 q6 q7 q8
  obtain ⟨used, e0, rfl⟩ := DataW.trod_bool Try.underlying4 q0
  obtain ⟨live, e1, rfl⟩ := DataW.trod_bool Try.underlying4 q1
  obtain ⟨final, e2, rfl⟩ := DataW.trod_bool Try.underlying4 q2
  obtain ⟨taken, e3, rfl⟩ := DataW.trod_bool Try.underlying4 q3
  obtain ⟨age, e4, rfl, b4⟩ := DataW.trod_int Try.underlying3 q4
  obtain ⟨gen, e5, rfl, b5⟩ := DataW.trod_int Try.underlying22 q5
  obtain ⟨link, e6, rfl, b6⟩ := DataW.trod_int Try.underlying22 q6
  obtain ⟨next, e7, rfl, b7⟩ := DataW.trod_int Try.underlying22 q7
  simp at e0 e1 e2 e3 e4 e5 e6 e7
  subst e0 e1 e2 e3 e4 e5 e6 e7
  have lt8 : ∀ x ∈ y8.2, x.block < W.heap.size := DataW.trod_lt m _ _ _ q8
  simp only [Prod.mk.injEq, List.map] at hx
  rcases open_ints Try.underlying29 Try.underlying22 cells22 q8 with ⟨hcs, rfl⟩ | ⟨a, len, cap, zs, hcs, _, hlc, hm, hz, rfl, hcell, hwz⟩
  · simp at hcs
    subst hcs
    exact ⟨used, live, final, taken, age, gen, link, next, none, 0, 0, [], _, rfl, hx.1, bounds_i64 b4, bounds_u64 b5, bounds_u64 b6, bounds_u64 b7, fun _ => ⟨rfl, rfl⟩, rfl, (by simp), fun j hj => absurd hj (Nat.not_lt_zero _), Or.inl rfl⟩
  · simp at hcs hz
    subst hcs
    refine ⟨used, live, final, taken, age, gen, link, next, some a, len, cap, zs.take len, _, rfl, hx.1, bounds_i64 b4, bounds_u64 b5, bounds_u64 b6, bounds_u64 b7, (fun h => by cases h), (by simp; omega), (fun n hn => bounds_u64 (hwz n (List.mem_of_mem_take hn))), (fun j hj => ?_), Or.inr ⟨_, _, rfl, (by simp [lits]; omega)⟩⟩
    obtain ⟨b, off, rfl, hc⟩ := ints_at hcell (by omega)
    refine ⟨b, off, rfl, ?_, ?_⟩
    · have := lt8 (MemPlace.cell b off) (by simp only [MemPlace.row]; exact List.mem_map.2 ⟨0, List.mem_range.2 (by omega), rfl⟩)
      exact this
    · rw [hc j (by omega)]
      have : j < zs.length := by omega
      simp [List.getD, hj]
end Go.Proofs.Ytjonllmhgpfndaa
