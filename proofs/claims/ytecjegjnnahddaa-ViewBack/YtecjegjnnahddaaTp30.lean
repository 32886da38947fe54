/-
  Lemmas: VwBb, VwBx, VwOp, VwTo.
-/
import Derived.Test.YtecjegjnnahddaaTp26
import Derived.Test.YtecjegjnnahddaaTp27
import Derived.Test.YtecjegjnnahddaaTp13
import Derived.Test.YtecjegjnnahddaaTp28
import Derived.Test.YtecjegjnnahddaaTp29
import Derived.Test.YtecjegjnnahddaaTp01
import Derived.Test.YtecjegjnnahddaaTp18
import Derived.SizedLaws
import Derived.Deep.Slices
import Derived.Test.YtecjegjnnahddaaTp11
import Derived.Test.YtecjegjnnahddaaTp21
import Derived.Deep.Grids
import Derived.Laws.IdiomArrays
/-
  View: ViewBack: the law, of a wrong shape
-/
namespace Go.Proofs.Ytecjegjnnahddaa
open Go.RowKit
set_option linter.unusedVariables false
set_option linter.unusedSimpArgs false
set_option linter.unnecessarySimpa false
set_option maxRecDepth 20000
namespace Vw
open Shape

set_option maxHeartbeats 16000000 in
theorem back_bad {s0 s1 s2 s3 s4 s5 : Int} {f : Nat → Int} {c : Cv} {a : Av} {w : World} (H : ¬ R5 s0 s1 s2 s3 s4) (ao : Option Addr) (m cap : Nat) :
    Calls Try.prog 5 #[.agg #[.int .i64 s0, .int .i64 s1, .int .i64 s2, .int .i64 s3, .int .i64 s4, .int .i64 s5], .slice ao m cap, vl c a] w fun e w' => e = .returned (.bool true) ∧ Below w.heap.size w w' := by
  have LY := hide (fun w1 => vlay_bad (s5 := s5) (c := c) (a := a) (w := w1) H)
  have LK := hide (look_bad (s5 := s5) H ao m cap)
  have CK := hide (fun (w1 : World) => check_er (w := w1) (hide (fun w2 => memoryOf_bad (s5 := s5) H ao m cap w2)) (by decide))
  clear H
  obtain ⟨W0, hW0, B0, K⟩ := box w s0 s1 s2 s3 s4 s5
  have HB := hide B0
  have l0 : w.heap.size < W0.heap.size := (K.out W0 (Below.refl _ _)).2.1
  obtain ⟨W1, hW1, B1, R1⟩ := vbox W0 c a
  have B01 := hide B1
  have RV := hide R1
  have l1 : W0.heap.size < W1.heap.size := R1.lt
  have HW1 := hide (HB.out.trans (B01.out.mono HB.out.size))
  clear B0 B1 R1
  simp only [vl] at LY ⊢
  simp [vl, cv0, av0] at LK
  go_enter Try.func5, Try.ntmps5
  go_upto_region 3 with (go_at_call 6; refine (awake_ok _).mono ?_; rintro e w2 ⟨rfl, hb⟩; have HB2 := hide hb; clear hb)
  have HK2 := hide (B01.out.trans (HB2.out.mono B01.out.size))
  have RV2 := hide (row_on RV.out HB2.out)
  obtain ⟨-, -, x0, x1, x2, x3, x4, x5⟩ := K.out w2 HK2.out
  have y0 := RV2.out.cell (i := 0) (by decide)
  have y1 := RV2.out.cell (i := 1) (by decide)
  have y2 := RV2.out.cell (i := 2) (by decide)
  have y3 := RV2.out.cell (i := 3) (by decide)
  have y4 := RV2.out.cell (i := 4) (by decide)
  have y5 := RV2.out.cell (i := 5) (by decide)
  have y6 := RV2.out.cell (i := 6) (by decide)
  have y7 := RV2.out.cell (i := 7) (by decide)
  have y8 := RV2.out.cell (i := 8) (by decide)
  have y9 := RV2.out.cell (i := 9) (by decide)
  have y10 := RV2.out.cell (i := 10) (by decide)
  have y11 := RV2.out.cell (i := 11) (by decide)
  have y12 := RV2.out.cell (i := 12) (by decide)
  have y13 := RV2.out.cell (i := 13) (by decide)
  simp only [lrow] at y0 y1 y2 y3 y4 y5 y6 y7 y8 y9 y10 y11 y12 y13
  go_upto_region 10 with (go_at_call 18; refine (LY.out _).mono ?_; rintro e w3 ⟨rfl, hb⟩; have HB3 := hide hb; clear hb)
  clear x0 x1 x2 x3 x4 x5 y0 y1 y2 y3 y4 y5 y6 y7 y8 y9 y10 y11 y12 y13 LY
  have HKV := hide (HK2.out.trans (HB3.out.mono HK2.out.size))
  obtain ⟨-, -, x0, x1, x2, x3, x4, x5⟩ := K.out w3 HKV.out
  go_upto_region 11 with (go_at_call 9; refine (LK.out _).mono ?_; rintro e w10 ⟨rfl, hb⟩; have HB10 := hide hb; have h910 := hb.size; clear hb)
  clear x0 x1 x2 x3 x4 x5 LK
  obtain ⟨W10, hW10⟩ : ∃ W, w10.alloc (.cells #[.int .i64 0, .int .i64 0, .int .u64 0, .slice none 0 0, .slice none 0 0, .slice none 0 0, .slice none 0 0, .slice none 0 0, .slice none 0 0, .slice none 0 0, .int .u64 0, .int .u64 0, .int .u64 0, .int .u64 0] 33) = W := ⟨_, rfl⟩
  have R10 := hide (show W10.rowIs w10.heap.size 33 14 (lrow [.int .i64 0, .int .i64 0, .int .u64 0, .slice none 0 0, .slice none 0 0, .slice none 0 0, .slice none 0 0, .slice none 0 0, .slice none 0 0, .slice none 0 0, .int .u64 0, .int .u64 0, .int .u64 0, .int .u64 0]) by rw [← hW10]; exact rowL_alloc w10 [.int .i64 0, .int .i64 0, .int .u64 0, .slice none 0 0, .slice none 0 0, .slice none 0 0, .slice none 0 0, .slice none 0 0, .slice none 0 0, .slice none 0 0, .int .u64 0, .int .u64 0, .int .u64 0, .int .u64 0] _ rfl)
  have hba : Below w10.heap.size w10 W10 := by rw [← hW10]; exact (Below.refl _ _).alloc (Nat.le_refl _) _
  have HB10 := hide (HB10.out.trans (hba.mono HB10.out.size))
  have l10 : w10.heap.size < W10.heap.size := R10.out.lt
  have HK10 := hide (HKV.out.trans (HB10.out.mono HKV.out.size))
  have HW10 := hide (HB.out.trans (HK10.out.mono HB.out.size))
  try simp only [hW10]
  clear hW10 hba
  obtain ⟨-, -, x0, x1, x2, x3, x4, x5⟩ := K.out W10 HK10.out
  have y0 := R10.out.cell (i := 0) (by decide)
  have y1 := R10.out.cell (i := 1) (by decide)
  have y2 := R10.out.cell (i := 2) (by decide)
  have y3 := R10.out.cell (i := 3) (by decide)
  have y4 := R10.out.cell (i := 4) (by decide)
  have y5 := R10.out.cell (i := 5) (by decide)
  have y6 := R10.out.cell (i := 6) (by decide)
  have y7 := R10.out.cell (i := 7) (by decide)
  have y8 := R10.out.cell (i := 8) (by decide)
  have y9 := R10.out.cell (i := 9) (by decide)
  have y10 := R10.out.cell (i := 10) (by decide)
  have y11 := R10.out.cell (i := 11) (by decide)
  have y12 := R10.out.cell (i := 12) (by decide)
  have y13 := R10.out.cell (i := 13) (by decide)
  simp only [lrow] at y0 y1 y2 y3 y4 y5 y6 y7 y8 y9 y10 y11 y12 y13
  go_wp2_with (go_at_call 11; refine (CK.out _).mono ?_; rintro e w14 ⟨rfl, hb⟩; have HB14 := hide hb; clear hb)
  go_ret
  exact ⟨rfl, HW10.out.trans (HB14.out.mono HW10.out.size)⟩
end Vw
end Go.Proofs.Ytecjegjnnahddaa

/-
  View: ViewBack: the law, of any shape, any words and any view
-/
namespace Go.Proofs.Ytecjegjnnahddaa
open Go.RowKit
set_option linter.unusedVariables false
set_option linter.unusedSimpArgs false
set_option linter.unnecessarySimpa false
namespace Vw
open Shape
theorem back_all {s0 s1 s2 s3 s4 s5 : Int} {ao : Option Addr} {m cap : Nat} {f : Nat → Int} {c : Cv} {a : Av} {w : World} (hS : Sees w w.heap.size ao m f) (hN : ao = none → m = 0 ∧ cap = 0) (hcp : m ≤ cap) (hf : ∀ i, i < m → 0 ≤ f i ∧ f i < 18446744073709551616) (hV : Shows w c a) (hB : Bnd c) (hL : Len c) :
    Calls Try.prog 5 #[.agg #[.int .i64 s0, .int .i64 s1, .int .i64 s2, .int .i64 s3, .int .i64 s4, .int .i64 s5], .slice ao m cap, vl c a] w fun e w' => e = .returned (.bool true) ∧ Below w.heap.size w w' := by
  by_cases H : R5 s0 s1 s2 s3 s4
  · obtain ⟨o, s, h, r, k, rfl, rfl, rfl, rfl, rfl, H'⟩ := nats_of H
    have h8 := lay_out ⟨o, s, h, r, k⟩
    have hh := H'.h2
    simp only at h8 hh
    exact back_walk H' rfl hS hcp hf hV hB hL (by omega) (by omega)
  · exact back_bad (f := f) H ao m cap
end Vw
end Go.Proofs.Ytecjegjnnahddaa

/-
  View: the arguments opened: words, steps; what they weigh.
-/
namespace Go.Proofs.Ytecjegjnnahddaa
open Go.ChangeShapes Go.WideShapes Go.ChangeAt Go.RowKit Go.Deep
set_option linter.unusedVariables false
set_option linter.unusedSimpArgs false
set_option maxRecDepth 100000
namespace Vw
theorem ncells46 : Try.prog.cellsOf 27 = 1 := by kernel_rfl
theorem ncells3 : Try.prog.cellsOf 3 = 1 := by kernel_rfl
theorem ncells4 : Try.prog.cellsOf 4 = 1 := by kernel_rfl
theorem ncellsP : Try.prog.cellsOf 47 = 6 := by kernel_rfl
theorem bytesU : Try.prog.bytesOf 27 = 8 := by kernel_rfl
theorem bytesP : Try.prog.bytesOf 47 = 48 := by kernel_rfl
section
variable {H : Type} {enc : TypeId × Value → H} {W : World} {base : Nat} {v : Value} {d : DataW H} {p : List MemPlace}
theorem open_words (hv : Value.okWide Try.prog W .any base 24 v) (h : DataW.Trod enc Try.prog W 0 (fun _ => true) true 24 v d p) :
    ∃ (ao : Option Addr) (n cap : Nat) (f : Nat → Int), v = .slice ao n cap ∧ (ao = none → n = 0 ∧ cap = 0) ∧ n ≤ maxLen ∧ Sees W W.heap.size ao n f ∧ (∀ i, i < n → 0 ≤ f i ∧ f i ≤ 18446744073709551615) := by
  obtain ⟨fuel, hf⟩ := h
  have lt8 : ∀ x ∈ p, x.block < W.heap.size := DataW.trod_lt fuel _ _ _ hf
  obtain ⟨ao, n, cap, rfl⟩ := okWide_slice Try.underlying24 hv
  rcases open_ints Try.underlying24 Try.underlying27 ncells46 hf with ⟨hcs, hx⟩ | ⟨a, len, cap', zs, hcs, _, hlc, hm, hz, hx, hcell, hwz⟩
  · simp [Value.cells] at hcs
    obtain ⟨rfl, rfl, rfl⟩ := hcs
    exact ⟨none, 0, 0, fun _ => 0, rfl, fun _ => ⟨rfl, rfl⟩, Nat.zero_le _, fun j hj => absurd hj (Nat.not_lt_zero _), fun i hi => absurd hi (Nat.not_lt_zero _)⟩
  · simp [Value.cells] at hcs hz
    obtain ⟨rfl, rfl, rfl⟩ := hcs
    obtain ⟨rfl, rfl⟩ := Prod.mk.inj hx
    refine ⟨some a, n, cap, fun i => zs.getD i 0, rfl, (fun h => by cases h), by omega, fun j hj => ?_, fun i hi => ?_⟩
    · obtain ⟨b, off, rfl, hc⟩ := ints_at hcell (by omega)
      refine ⟨b, off, rfl, ?_, hc j (by omega)⟩
      have := lt8 (MemPlace.cell b off) (by simp only [MemPlace.row]; exact List.mem_map.2 ⟨0, List.mem_range.2 (by omega), rfl⟩)
      exact this
    · have hi' : i < zs.length := by omega
      have hmem : zs.getD i 0 ∈ zs := by simp [List.getD, hi']
      exact bounds_u64 (hwz _ hmem)


end
section
variable {H : Type} {enc : TypeId × Value → H} {W : World} {fuel : Nat} {cs : List Value} {x : DataW H × List MemPlace} {B : Nat}
theorem mem_all {P : Program} {e : TypeId} : ∀ {l : List (DataW H)} {d : DataW H}, d ∈ l → ∀ q ∈ d.weights P e, q ∈ DataW.weightsAll P e l
  | _ :: _, _, .head _, q, hq => by rw [DataW.weightsAll]; exact List.mem_append_left _ hq
  | _ :: _, _, .tail _ h, q, hq => by rw [DataW.weightsAll]; exact List.mem_append_right _ (mem_all h q hq)

theorem slice_weight {t e : TypeId} (ht : Try.prog.underlying t = some (.slice e)) (hf : DataW.trod enc Try.prog W 0 (fun _ => true) true fuel t cs = some x) {ao : Option Addr} {n cap : Nat} (hcs : cs = [.slice ao n cap]) (hw : ∀ q ∈ x.1.weights Try.prog t, q ≤ B) : n * Try.prog.bytesOf e ≤ B ∧ (ao = none → n = 0 ∧ cap = 0) := by
  rcases open_slice ht hf with ⟨h1, rfl⟩ | ⟨a, len, cap', m, fu, D, Pl, h1, _, hlc, hm, hmm, rfl, hel⟩
  · rw [hcs] at h1
    cases h1
    exact ⟨by simp, fun _ => ⟨rfl, rfl⟩⟩
  · rw [hcs] at h1
    cases h1
    refine ⟨?_, fun h => by cases h⟩
    have := hw ((n + (m - n)) * Try.prog.bytesOf e) (by simp [DataW.weights, ht])
    exact Nat.le_trans (Nat.mul_le_mul_right _ (Nat.le_add_right _ _)) this


end
theorem len_cap {H : Type} {enc : TypeId × Value → H} {W : World} {fuel : Nat} {x : DataW H × List MemPlace} {t e : TypeId} {ao : Option Addr} {n cap : Nat} (ht : Try.prog.underlying t = some (.slice e)) (hf : DataW.trod enc Try.prog W 0 (fun _ => true) true fuel t [.slice ao n cap] = some x) : n ≤ cap := by
  rcases open_slice ht hf with ⟨h1, _⟩ | ⟨a, len, cap', m, fu, D, Pl, h1, _, hlc, hm, hmm, _, hel⟩
  · cases h1
    exact Nat.le_refl _
  · cases h1
    first | exact hlc | exact hlc.1 | omega


theorem list6 {α : Type} {l : List α} (h : l.length = 6) : ∃ a b c d e f, l = [a, b, c, d, e, f] := by
  match l, h with
  | [a, b, c, d, e, f], _ => exact ⟨a, b, c, d, e, f, rfl⟩
set_option maxRecDepth 4000 in
theorem open_step {H : Type} {enc : TypeId × Value → H} {W : World} {n : Nat} {cs : List Value} {x : DataW H × List MemPlace}
    (hl : cs.length = 6) (h : DataW.trod enc Try.prog W 0 (fun _ => true) true n 47 cs = some x) :
    ∃ s : Sp, cs = s.cells := by
  obtain ⟨c0, c1, c2, c3, c4, c5, rfl⟩ := list6 hl
  obtain ⟨xs, m, _, hx, _, hl, hel⟩ := DataW.trod_struct Try.underlying47 h
  obtain ⟨y0, y1, y2, y3, y4, y5, rfl⟩ := list6 hl
  have q0 := hel 0 _ rfl
  have q1 := hel 1 _ rfl
  have q2 := hel 2 _ rfl
  have q3 := hel 3 _ rfl
  have q4 := hel 4 _ rfl
  have q5 := hel 5 _ rfl
  simp [ncells4, ncells3, ncells46, Value.cells] at q0 q1 q2 q3 q4 q5
  obtain ⟨h0, e0, _, b0⟩ := DataW.trod_int Try.underlying3 q0
  obtain ⟨h1, e1, _, b1⟩ := DataW.trod_int Try.underlying3 q1
  obtain ⟨h2, e2, _, b2⟩ := DataW.trod_int Try.underlying3 q2
  obtain ⟨h3, e3, _, b3⟩ := DataW.trod_int Try.underlying27 q3
  obtain ⟨h4, e4, _, b4⟩ := DataW.trod_int Try.underlying27 q4
  obtain ⟨h5, e5, _⟩ := DataW.trod_bool Try.underlying4 q5
  simp at e0 e1 e2 e3 e4 e5
  subst e0 e1 e2 e3 e4 e5
  exact ⟨⟨h0, h1, h2, h3, h4, h5⟩, rfl⟩
theorem Sp.cells_get (s : Sp) {j : Nat} (h : j < 6) : s.cells[j]? = some (s.cell j) := by
  match j, h with
  | 0, _ | 1, _ | 2, _ | 3, _ | 4, _ | 5, _ => rfl
theorem open_steps {H : Type} {enc : TypeId × Value → H} {W : World} {base : Nat} {v : Value} {d : DataW H} {p : List MemPlace}
    (hv : Value.okWide Try.prog W .any base 45 v) (h : DataW.Trod enc Try.prog W 0 (fun _ => true) true 45 v d p) :
    ∃ (ao : Option Addr) (n cap : Nat) (a : Nat → Sp), v = .slice ao n cap ∧ (ao = none → n = 0 ∧ cap = 0) ∧ n ≤ cap ∧ cap ≤ maxLen ∧ SeesP W ao n a := by
  obtain ⟨fuel, hf⟩ := h
  have lt8 : ∀ x ∈ p, x.block < W.heap.size := DataW.trod_lt fuel _ _ _ hf
  obtain ⟨ao, n, cap, rfl⟩ := okWide_slice Try.underlying45 hv
  rcases open_slice Try.underlying45 hf with ⟨hcs, hx⟩ | ⟨a, len, cap', m, fu, D, Pl, hcs, _, hlc, hm, hmm, hx, hel⟩
  · simp [Value.cells] at hcs
    obtain ⟨rfl, rfl, rfl⟩ := hcs
    exact ⟨none, 0, 0, fun _ => ⟨0, 0, 0, 0, 0, false⟩, rfl, fun _ => ⟨rfl, rfl⟩, Nat.le_refl _, Nat.zero_le _, fun j hj => absurd hj (Nat.not_lt_zero _)⟩
  · simp [Value.cells] at hcs hmm
    obtain ⟨rfl, rfl, rfl⟩ := hcs
    obtain ⟨rfl, rfl⟩ := Prod.mk.inj hx
    rw [ncellsP] at hel lt8
    have each : ∀ i, i < m → ∃ s : Sp, (∀ j, j < 6 → W.cell? (a.add (i * 6 + j)) = some (s.cell j)) := by
      intro i hi
      obtain ⟨cs', h1, h2⟩ := hel i hi
      obtain ⟨_, hlen, hcell⟩ := World.cells?_some h1
      obtain ⟨s, rfl⟩ := open_step hlen h2
      refine ⟨s, fun j hj => ?_⟩
      have e := hcell j (by omega)
      rw [add_add] at e
      rw [e]
      exact Sp.cells_get s hj
    have : Inhabited Sp := ⟨⟨0, 0, 0, 0, 0, false⟩⟩
    obtain ⟨q, hq⟩ := choose_lt each
    refine ⟨some a, n, cap, q, rfl, (fun h => by cases h), by first | exact hlc | omega, by first | exact hm | omega, fun j hj => ?_⟩
    obtain ⟨b, off, spot⟩ := a
    have c0 := hq 0 (by omega) 0 (by omega)
    have hspot : spot = none := by simpa [Addr.add] using World.cell?_spot c0
    subst hspot
    refine ⟨b, off, rfl, ?_, fun i hi => ?_⟩
    · have := lt8 (MemPlace.cell b off) (List.mem_append_left _ (by simp only [MemPlace.row]; exact List.mem_map.2 ⟨0, List.mem_range.2 (by omega), rfl⟩))
      exact this
    · have e := hq j (by omega) i hi
      rw [Go.WideShapes.add_plain] at e
      rw [Nat.add_assoc]
      exact e
end Vw
end Go.Proofs.Ytecjegjnnahddaa

/-
  View: a view handed in, opened: what it shows; its numbers are words; its lists are no longer than slices can be
-/
namespace Go.Proofs.Ytecjegjnnahddaa
open Go.ChangeShapes Go.WideShapes Go.ChangeAt Go.RowKit Go.Deep
set_option linter.unusedVariables false
set_option linter.unusedSimpArgs false
set_option maxRecDepth 100000
namespace Vw
namespace To
theorem nc_u : Try.prog.cellsOf 27 = 1 := by kernel_rfl
theorem nc_i : Try.prog.cellsOf 3 = 1 := by kernel_rfl
theorem nc_b : Try.prog.cellsOf 4 = 1 := by kernel_rfl
theorem nc_su : Try.prog.cellsOf 24 = 1 := by kernel_rfl
theorem nc_ssu : Try.prog.cellsOf 28 = 1 := by kernel_rfl
theorem nc_so : Try.prog.cellsOf 29 = 1 := by kernel_rfl
theorem nc_si : Try.prog.cellsOf 30 = 1 := by kernel_rfl
theorem nc_a4 : Try.prog.cellsOf 31 = 4 := by kernel_rfl
theorem nc_o : Try.prog.cellsOf 57 = 9 := by kernel_rfl
theorem nc_v : Try.prog.cellsOf 33 = 14 := by kernel_rfl
abbrev fn (l : List Int) : Nat → Int := fun i => l.getD i 0
abbrev Bw (n : Nat) (f : Nat → Int) : Prop := ∀ i, i < n → 0 ≤ f i ∧ f i < 18446744073709551616

section
variable {H : Type} {enc : TypeId × Value → H} {W : World} {fuel : Nat} {cs : List Value} {x : DataW H × List MemPlace}
theorem tr_words (h : DataW.trod enc Try.prog W 0 (fun _ => true) true fuel 24 cs = some x) : ∃ (ao : Option Addr) (n : Nat) (f : Nat → Int) (cap : Nat), cs = [.slice ao n cap] ∧ Sees W W.heap.size ao n f ∧ Bw n f ∧ n ≤ 9223372036854775807 := by
  have lt8 : ∀ y ∈ x.2, y.block < W.heap.size := DataW.trod_lt fuel _ _ _ h
  rcases open_ints Try.underlying24 Try.underlying27 nc_u h with ⟨hcs, hx⟩ | ⟨a, len, cap, zs, hcs, _, hlc, hm, hz, hx, hcell, hwz⟩
  · subst hcs hx
    exact ⟨none, 0, fun _ => 0, 0, rfl, fun j hj => by omega, fun u hu => by omega, by omega⟩
  · simp at hz
    subst hcs hx
    unfold maxLen at hm
    refine ⟨some a, len, fn zs, cap, rfl, fun j hj => ?_, fun u hu => ?_, by omega⟩
    · obtain ⟨b, off, rfl, hc⟩ := ints_at hcell (by omega)
      refine ⟨b, off, rfl, ?_, ?_⟩
      · exact lt8 (MemPlace.cell b off) (by simp only [MemPlace.row]; exact List.mem_map.2 ⟨0, List.mem_range.2 (by omega), rfl⟩)
      · rw [hc j (by omega)]
    · have hm : fn zs u ∈ zs := by
        have : u < zs.length := by omega
        simp [fn, List.getD, this]
      have := bounds_u64 (hwz _ hm)
      omega
theorem tr_nums (h : DataW.trod enc Try.prog W 0 (fun _ => true) true fuel 30 cs = some x) : ∃ (ao : Option Addr) (l : List Int) (cap : Nat), cs = [.slice ao l.length cap] ∧ SeesN W ao l ∧ l.length ≤ 9223372036854775807 := by
  have lt8 : ∀ y ∈ x.2, y.block < W.heap.size := DataW.trod_lt fuel _ _ _ h
  rcases open_ints Try.underlying30 Try.underlying3 nc_i h with ⟨hcs, hx⟩ | ⟨a, len, cap, zs, hcs, _, hlc, hm, hz, hx, hcell, hwz⟩
  · subst hcs hx
    exact ⟨none, [], 0, rfl, fun j c hj => by simp at hj, by simp⟩
  · simp at hz
    subst hcs hx
    unfold maxLen at hm
    have hl : (zs.take len).length = len := by simp; omega
    refine ⟨some a, zs.take len, cap, by rw [hl], fun j c hj => ?_, by omega⟩
    have hj' : j < len := by have := (List.getElem?_eq_some_iff.1 hj).1; omega
    obtain ⟨b, off, rfl, hc⟩ := ints_at hcell (by omega)
    refine ⟨b, off, rfl, ?_, ?_⟩
    · exact lt8 (MemPlace.cell b off) (by simp only [MemPlace.row]; exact List.mem_map.2 ⟨0, List.mem_range.2 (by omega), rfl⟩)
    · rw [hc j (by omega)]
      rw [List.getElem?_take, if_pos hj'] at hj
      simp [List.getD, hj]
theorem list9 {α : Type} {l : List α} (h : l.length = 9) : ∃ a b c d e f g i j, l = [a, b, c, d, e, f, g, i, j] := by
  match l, h with
  | [a, b, c, d, e, f, g, i, j], _ => exact ⟨a, b, c, d, e, f, g, i, j, rfl⟩
theorem list11 {α : Type} {l : List α} (h : l.length = 11) : ∃ a b c d e f g i j k m, l = [a, b, c, d, e, f, g, i, j, k, m] := by
  match l, h with
  | [a, b, c, d, e, f, g, i, j, k, m], _ => exact ⟨a, b, c, d, e, f, g, i, j, k, m, rfl⟩
theorem list14 {α : Type} {l : List α} (h : l.length = 14) : ∃ a b c d e f g i j k m n o p, l = [a, b, c, d, e, f, g, i, j, k, m, n, o, p] := by
  match l, h with
  | [a, b, c, d, e, f, g, i, j, k, m, n, o, p], _ => exact ⟨a, b, c, d, e, f, g, i, j, k, m, n, o, p, rfl⟩
structure Wo (o : Ob) : Prop where
  ge : 0 ≤ o.ge
  lk : 0 ≤ o.lk ∧ o.lk < 18446744073709551616
  nx : 0 ≤ o.nx ∧ o.nx < 18446744073709551616
  sl : Bw o.ns o.sl
  ns : o.ns ≤ 9223372036854775807
set_option maxRecDepth 4000 in
theorem tr_obj (hl : cs.length = 9) (h : DataW.trod enc Try.prog W 0 (fun _ => true) true fuel 57 cs = some x) : ∃ (o : Ob) (ai : Option Addr) (ci : Nat), cs = o.cells (.slice ai o.ns ci) ∧ Sees W W.heap.size ai o.ns o.sl ∧ Wo o := by
  obtain ⟨c0, c1, c2, c3, c4, c5, c6, c7, c8, rfl⟩ := list9 hl
  obtain ⟨xs, m, _, hx, _, hl, hel⟩ := DataW.trod_struct Try.underlying57 h
  obtain ⟨y0, y1, y2, y3, y4, y5, y6, y7, y8, rfl⟩ := list9 hl
  have q0 := hel 0 _ rfl
  have q1 := hel 1 _ rfl
  have q2 := hel 2 _ rfl
  have q3 := hel 3 _ rfl
  have q4 := hel 4 _ rfl
  have q5 := hel 5 _ rfl
  have q6 := hel 6 _ rfl
  have q7 := hel 7 _ rfl
  have q8 := hel 8 _ rfl
  simp [nc_b, nc_i, nc_u, nc_su, Value.cells] at q0 q1 q2 q3 q4 q5 q6 q7 q8
  obtain ⟨us, e0, _⟩ := DataW.trod_bool Try.underlying4 q0
  obtain ⟨li, e1, _⟩ := DataW.trod_bool Try.underlying4 q1
  obtain ⟨fi, e2, _⟩ := DataW.trod_bool Try.underlying4 q2
  obtain ⟨ta, e3, _⟩ := DataW.trod_bool Try.underlying4 q3
  obtain ⟨ag, e4, _, b4⟩ := DataW.trod_int Try.underlying3 q4
  obtain ⟨ge, e5, _, b5⟩ := DataW.trod_int Try.underlying27 q5
  obtain ⟨lk, e6, _, b6⟩ := DataW.trod_int Try.underlying27 q6
  obtain ⟨nx, e7, _, b7⟩ := DataW.trod_int Try.underlying27 q7
  simp at e0 e1 e2 e3 e4 e5 e6 e7
  subst e0 e1 e2 e3 e4 e5 e6 e7
  obtain ⟨ao, n, f, cap, e8, hs, hw, hn⟩ := tr_words q8
  simp at e8
  subst e8
  have h5 := bounds_u64 b5
  have h6 := bounds_u64 b6
  have h7 := bounds_u64 b7
  exact ⟨⟨us, li, fi, ta, ag, ge, lk, nx, n, f⟩, ao, cap, rfl, hs, ⟨by simp only; omega, by simp only; omega, by simp only; omega, hw, hn⟩⟩
theorem tr_objs (h : DataW.trod enc Try.prog W 0 (fun _ => true) true fuel 29 cs = some x) : ∃ (oa : Option Addr) (n : Nat) (F : Nat → Ob) (cb : Nat), cs = [.slice oa n cb] ∧ (∀ j, j < n → ∃ b off ai ci, oa = some ⟨b, off, none⟩ ∧ b < W.heap.size ∧ (∀ q, q < 9 → W.cell? ⟨b, off + j * 9 + q, none⟩ = some ((F j).cell (.slice ai (F j).ns ci) q)) ∧ Sees W W.heap.size ai (F j).ns (F j).sl) ∧ (∀ j, j < n → Wo (F j)) ∧ n ≤ 9223372036854775807 := by
  have lt8 : ∀ y ∈ x.2, y.block < W.heap.size := DataW.trod_lt fuel _ _ _ h
  rcases open_slice Try.underlying29 h with ⟨hcs, hx⟩ | ⟨a, len, cap, m, fu, D, Pl, hcs, _, hlc, hm, hmm, hx, hel⟩
  · subst hcs hx
    exact ⟨none, 0, fun _ => ⟨false, false, false, false, 0, 0, 0, 0, 0, fun _ => 0⟩, 0, rfl, fun j hj => by omega, fun j hj => by omega, by omega⟩
  · simp at hmm
    subst hcs hx hmm
    rw [nc_o] at hel lt8
    unfold maxLen at hm
    have each : ∀ i, i < m → ∃ s : Ob × Option Addr × Nat, (∀ j, j < 9 → W.cell? (a.add (i * 9 + j)) = some (s.1.cell (.slice s.2.1 s.1.ns s.2.2) j)) ∧ Sees W W.heap.size s.2.1 s.1.ns s.1.sl ∧ Wo s.1 := by
      intro i hi
      obtain ⟨cs', h1, h2⟩ := hel i hi
      obtain ⟨_, hlen, hcell⟩ := World.cells?_some h1
      obtain ⟨o, ai, ci, rfl, k1, k2⟩ := tr_obj hlen h2
      refine ⟨(o, ai, ci), fun j hj => ?_, k1, k2⟩
      have e := hcell j (by omega)
      rw [add_add] at e
      rw [e]
      exact Ob.cells_get o _ hj
    have : Inhabited (Ob × Option Addr × Nat) := ⟨(⟨false, false, false, false, 0, 0, 0, 0, 0, fun _ => 0⟩, none, 0)⟩
    obtain ⟨q, hq⟩ := choose_lt each
    refine ⟨some a, len, fun i => (q i).1, m, rfl, ?_, fun j hj => (hq j (by omega)).2.2, by omega⟩
    intro j hjl
    obtain ⟨b, off, spot⟩ := a
    have c0 := (hq 0 (by omega)).1 0 (by omega)
    have hspot : spot = none := by simpa [Addr.add] using World.cell?_spot c0
    subst hspot
    obtain ⟨k0, k1, _⟩ := hq j (by omega)
    refine ⟨b, off, (q j).2.1, (q j).2.2, rfl, ?_, fun i hi => ?_, k1⟩
    · exact lt8 (MemPlace.cell b off) (List.mem_append_left _ (by simp only [MemPlace.row]; exact List.mem_map.2 ⟨0, List.mem_range.2 (by omega), rfl⟩))
    · have e := k0 i hi
      rw [Go.WideShapes.add_plain] at e
      rw [Nat.add_assoc]
      exact e
theorem tr_lists (h : DataW.trod enc Try.prog W 0 (fun _ => true) true fuel 28 cs = some x) : ∃ (ra : Option Addr) (n : Nat) (N : Nat → Nat) (F : Nat → Nat → Int) (cr : Nat), cs = [.slice ra n cr] ∧ (∀ j, j < n → ∃ b off ai ci, ra = some ⟨b, off, none⟩ ∧ b < W.heap.size ∧ W.cell? ⟨b, off + j, none⟩ = some (.slice ai (N j) ci) ∧ Sees W W.heap.size ai (N j) (F j)) ∧ (∀ j, j < n → Bw (N j) (F j) ∧ N j ≤ 9223372036854775807) ∧ n ≤ 9223372036854775807 := by
  have lt8 : ∀ y ∈ x.2, y.block < W.heap.size := DataW.trod_lt fuel _ _ _ h
  rcases open_slice Try.underlying28 h with ⟨hcs, hx⟩ | ⟨a, len, cap, m, fu, D, Pl, hcs, _, hlc, hm, hmm, hx, hel⟩
  · subst hcs hx
    exact ⟨none, 0, fun _ => 0, fun _ _ => 0, 0, rfl, fun j hj => by omega, fun j hj => by omega, by omega⟩
  · simp at hmm
    subst hcs hx hmm
    rw [nc_su] at hel lt8
    unfold maxLen at hm
    have each : ∀ i, i < m → ∃ s : (Nat × (Nat → Int)) × Option Addr × Nat, W.cell? (a.add i) = some (.slice s.2.1 s.1.1 s.2.2) ∧ Sees W W.heap.size s.2.1 s.1.1 s.1.2 ∧ Bw s.1.1 s.1.2 ∧ s.1.1 ≤ 9223372036854775807 := by
      intro i hi
      obtain ⟨cs', h1, h2⟩ := hel i hi
      obtain ⟨_, hlen, hcell⟩ := World.cells?_some h1
      obtain ⟨ao, n, f, cap, rfl, k1, k2, k3⟩ := tr_words h2
      refine ⟨((n, f), ao, cap), ?_, k1, k2, k3⟩
      have e := hcell 0 (by simp)
      rw [add_add] at e
      simpa using e
    have : Inhabited ((Nat × (Nat → Int)) × Option Addr × Nat) := ⟨((0, fun _ => 0), none, 0)⟩
    obtain ⟨q, hq⟩ := choose_lt each
    refine ⟨some a, len, fun i => (q i).1.1, fun i => (q i).1.2, m, rfl, ?_, fun j hj => (hq j (by omega)).2.2, by omega⟩
    intro j hjl
    obtain ⟨b, off, spot⟩ := a
    have c0 := (hq 0 (by omega)).1
    have hspot : spot = none := by simpa [Addr.add] using World.cell?_spot c0
    subst hspot
    obtain ⟨k0, k1, _⟩ := hq j (by omega)
    refine ⟨b, off, (q j).2.1, (q j).2.2, rfl, ?_, ?_, k1⟩
    · exact lt8 (MemPlace.cell b off) (List.mem_append_left _ (by simp only [MemPlace.row]; exact List.mem_map.2 ⟨0, List.mem_range.2 (by omega), rfl⟩))
    · rw [Go.WideShapes.add_plain] at k0
      exact k0
set_option maxRecDepth 4000 in
theorem tr_view (hl : cs.length = 14) (h : DataW.trod enc Try.prog W 0 (fun _ => true) true fuel 33 cs = some x) : ∃ (c : Cv) (a : Av), Value.agg cs.toArray = vl c a ∧ Shows W c a ∧ Bnd c ∧ Len c := by
  obtain ⟨c0, c1, c2, c3, c4, c5, c6, c7, c8, c9, c10, c11, c12, c13, rfl⟩ := list14 hl
  obtain ⟨xs, m, _, hx, _, hl, hel⟩ := DataW.trod_struct Try.underlying33 h
  obtain ⟨y0, y1, y2, y3, y4, y5, y6, y7, y8, y9, y10, rfl⟩ := list11 hl
  have q0 := hel 0 _ rfl
  have q1 := hel 1 _ rfl
  have q2 := hel 2 _ rfl
  have q3 := hel 3 _ rfl
  have q4 := hel 4 _ rfl
  have q5 := hel 5 _ rfl
  have q6 := hel 6 _ rfl
  have q7 := hel 7 _ rfl
  have q8 := hel 8 _ rfl
  have q9 := hel 9 _ rfl
  have q10 := hel 10 _ rfl
  simp [nc_i, nc_u, nc_su, nc_ssu, nc_so, nc_si, nc_a4, Value.cells] at q0 q1 q2 q3 q4 q5 q6 q7 q8 q9 q10
  obtain ⟨ph, e0, _, _⟩ := DataW.trod_int Try.underlying3 q0
  obtain ⟨co, e1, _, _⟩ := DataW.trod_int Try.underlying3 q1
  obtain ⟨ro, e2, _, r2⟩ := DataW.trod_int Try.underlying27 q2
  obtain ⟨aa, na, ac, ca, e3, h3, w3, n3⟩ := tr_words q3
  obtain ⟨ra, nr, rn, rt, cr, e4, h4, w4, n4⟩ := tr_lists q4
  obtain ⟨wa, nw, wk, cw, e5, h5, w5, n5⟩ := tr_words q5
  obtain ⟨oa, no, ob, cb, e6, h6, w6, n6⟩ := tr_objs q6
  obtain ⟨fa, lf, cf, e7, h7, n7⟩ := tr_nums q7
  obtain ⟨ga, lg, cg, e8, h8, n8⟩ := tr_nums q8
  obtain ⟨qa, lq, cq, e9, h9, n9⟩ := tr_nums q9
  obtain ⟨z0, z1, z2, z3, n', _, p0, p1, p2, p3⟩ := trod_array4 Try.underlying31 nc_u q10
  obtain ⟨k0, f0, _, b0⟩ := DataW.trod_int Try.underlying27 p0
  obtain ⟨k1, f1, _, b1⟩ := DataW.trod_int Try.underlying27 p1
  obtain ⟨k2, f2, _, b2⟩ := DataW.trod_int Try.underlying27 p2
  obtain ⟨k3, f3, _, b3⟩ := DataW.trod_int Try.underlying27 p3
  simp at e0 e1 e2 e3 e4 e5 e6 e7 e8 e9 f0 f1 f2 f3
  subst e0 e1 e2 e3 e4 e5 e6 e7 e8 e9 f0 f1 f2 f3
  have r2' := bounds_u64 r2
  have b0' := bounds_u64 b0
  have b1' := bounds_u64 b1
  have b2' := bounds_u64 b2
  have b3' := bounds_u64 b3
  refine ⟨⟨ph, co, ro, na, ac, nr, rn, rt, nw, wk, no, ob, lf, lg, lq, fun i => match i with | 0 => k0 | 1 => k1 | 2 => k2 | _ => k3⟩, ⟨aa, ca, ra, cr, wa, cw, oa, cb, fa, cf, ga, cg, qa, cq⟩, rfl, ⟨h3, h4, h5, h6, h7, h8, h9⟩, ⟨by simp only; omega, ?_, w3, fun j hj => (w4 j hj).1, w5, fun j hj => ⟨(w6 j hj).ge, (w6 j hj).lk, (w6 j hj).nx, (w6 j hj).sl⟩⟩, ⟨n3, n4, fun j hj => (w4 j hj).2, n5, n6, fun j hj => (w6 j hj).ns, n7, n8, n9⟩⟩
  intro i hi
  match i, hi with
  | 0, _ => simp only; omega
  | 1, _ => simp only; omega
  | 2, _ => simp only; omega
  | 3, _ => simp only; omega
end
end To
end Vw
end Go.Proofs.Ytecjegjnnahddaa
