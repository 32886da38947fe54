/-
  The statements' first look at the program, 'alive': it answers true and turns nothing that was there.
-/
import Derived.Test.YtfggjnjndemipaaNew
import Derived.Test.YtfggjnjndemipaaDo
namespace Go.Proofs.Ytfggjnjndemipaa
open Go.RowKit
set_option linter.unusedVariables false
set_option linter.unusedSimpArgs false

def f57 : Nat → Int := fun i => if i = 0 then 5 else 7

theorem sees57 (w : World) : Sees (w.alloc (.cells #[.int .u64 5, .int .u64 7] 36)) (w.alloc (.cells #[.int .u64 5, .int .u64 7] 36)).heap.size (some ⟨w.heap.size, 0, none⟩) 2 f57 := by
  intro j hj
  refine ⟨w.heap.size, 0, rfl, by simp, ?_⟩
  match j, hj with
  | 0, _ => simp [f57]
  | 1, _ => simp [f57]

theorem two {p : Nat → Prop} (h0 : p 0) (h1 : p 1) : ∀ i, i < 2 → p i := by
  intro i hi
  match i, hi with
  | 0, _ => exact h0
  | 1, _ => exact h1
theorem e1 : (stepOf 2 f57 ⟨3, 5, 1, 8, 3, false⟩).val = .agg #[.int .i64 3, .int .i64 5, .int .i64 1, .int .u64 7, .int .u64 7, .bool false] := by simp [stepOf, Stp.val, actOf, putBy, f57]
theorem e2 : ∀ i, i < 2 → wordsOf 2 f57 ⟨3, 5, 1, 8, 3, false⟩ i = f57 i := two (by simp [wordsOf, stepOf, actOf, putBy, f57, putF]) (by simp [wordsOf, stepOf, actOf, putBy, f57, putF])
def g47 : Nat → Int := fun i => if i = 0 then 4 else 7
def g42 : Nat → Int := fun i => if i = 0 then 4 else 2
theorem e3 : ∀ i, i < 2 → (if (0 : Int) ≤ 0 ∧ (0 : Int) < (2 : Nat) then putF f57 (0 : Int).toNat ((f57 (0 : Int).toNat + 18446744073709551615) % 18446744073709551616) else f57) i = g47 i := two (by simp [f57, putF, g47]) (by simp [f57, putF, g47])
theorem e4 : ∀ i, i < 2 → (if ((0 : Int) ≤ 1 ∧ (1 : Int) < (2 : Nat)) ∧ g47 (1 : Int).toNat = 7 then putF g47 (1 : Int).toNat 2 else g47) i = g42 i := two (by simp [g47, putF, g42]) (by simp [g47, putF, g42])

theorem alive_do {w : World} {bm bw : Nat} (hm : IsMem w bm bw 2 f57) : Calls Try.prog 16 #[.pointer (some ⟨bm, 0, none⟩), .int .i64 3, .int .i64 5, .int .i64 1, .int .u64 8, .int .u64 3] w
    fun e w' => e = .returned (.agg #[.int .i64 3, .int .i64 5, .int .i64 1, .int .u64 7, .int .u64 7, .bool false]) ∧ IsMem w' bm bw 2 f57 ∧ w.grownBy w' (some bw) :=
  (do_mem hm ⟨3, 5, 1, 8, 3, false⟩ (by simp)).mono (by rintro e w' ⟨rfl, h1, h2⟩; exact ⟨by rw [e1], h1.congr e2, h2⟩)
theorem alive_add {w : World} {bm bw : Nat} (hm : IsMem w bm bw 2 f57) : Calls Try.prog 23 #[.pointer (some ⟨bm, 0, none⟩), .int .i64 0, .int .u64 18446744073709551615] w
    fun e w' => e = .returned (.int .u64 4) ∧ IsMem w' bm bw 2 g47 ∧ w.grownBy w' (some bw) :=
  (add_mem hm 0 18446744073709551615).mono (by rintro e w' ⟨rfl, h1, h2⟩; exact ⟨by simp [f57], h1.congr e3, h2⟩)
theorem alive_cas {w : World} {bm bw : Nat} (hm : IsMem w bm bw 2 g47) : Calls Try.prog 24 #[.pointer (some ⟨bm, 0, none⟩), .int .i64 1, .int .u64 7, .int .u64 2] w
    fun e w' => e = .returned (.bool true) ∧ IsMem w' bm bw 2 g42 ∧ w.grownBy w' (some bw) :=
  (cas_mem hm 1 7 2 (by omega)).mono (by rintro e w' ⟨rfl, h1, h2⟩; exact ⟨by simp [g47], h1.congr e4, h2⟩)
theorem alive_load {w : World} {bm bw : Nat} (hm : IsMem w bm bw 2 g42) : Calls Try.prog 22 #[.pointer (some ⟨bm, 0, none⟩), .int .i64 1] w
    fun e w' => e = .returned (.int .u64 2) ∧ w' = w :=
  (load_mem hm 1).mono (by rintro e w' ⟨rfl, h1⟩; exact ⟨by simp [g42], h1⟩)

set_option maxHeartbeats 800000 in
theorem alive_any (w : World) : Calls Try.prog 9 #[] w fun e w' => e = .returned (.bool true) ∧ Below w.heap.size w w' := by
  go_enter Try.func9, Try.ntmps9
  go_wp2_with fail
  refine (new_mem (sees57 w) (fun i _ => by unfold f57; split <;> omega) (by omega)).mono ?_
  rintro e w1 ⟨bm, bw, rfl, hm, hb, l1, l2⟩
  have b1 : Below w.heap.size w w1 := ((Below.refl _ w).alloc (Nat.le_refl _) _).trans (hb.mono (by simp))
  have l3 : w.heap.size ≤ bw := by simp at l2; omega
  clear l1 l2 hb
  have B1 := hide b1
  clear b1
  go_wp2_with fail
  refine (size_mem hm).mono ?_
  rintro e w' ⟨rfl, hw⟩
  obtain rfl := hw.symm
  go_wp2_with fail
  refine (size_nil _).mono ?_
  rintro e w' ⟨rfl, hw⟩
  obtain rfl := hw.symm
  go_wp2_with fail
  refine (load_nil _).mono ?_
  rintro e w' ⟨rfl, hw⟩
  obtain rfl := hw.symm
  go_wp2_with fail
  refine (alive_do hm).mono ?_
  rintro e w2 ⟨rfl, hm2, hg2⟩
  have b2 := B1.out.trans (grown_below hg2 B1.out.size l3)
  have B2 := hide b2
  clear hg2 hm B1 b2
  go_wp2_with fail
  refine (alive_add (hm2.alloc _)).mono ?_
  rintro e w3 ⟨rfl, hm3, hg3⟩
  have b3 : Below w.heap.size w w3 := (B2.out.alloc B2.out.size _).trans (grown_below hg3 (by have := B2.out.size; simp; omega) l3)
  have B3 := hide b3
  clear hg3 hm2 B2 b3
  go_wp2_with fail
  refine (alive_cas hm3).mono ?_
  rintro e w4 ⟨rfl, hm4, hg4⟩
  have b4 : Below w.heap.size w w4 := B3.out.trans (grown_below hg4 B3.out.size l3)
  have B4 := hide b4
  clear hg4 hm3 B3 b4
  go_wp2_with fail
  refine (alive_load hm4).mono ?_
  rintro e w5 ⟨rfl, hw⟩
  obtain rfl := hw.symm
  go_wp2
  go_ret
  exact ⟨rfl, B4.out⟩
end Go.Proofs.Ytfggjnjndemipaa
