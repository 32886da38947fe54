/-
  Script, the program's: the steps and the words, act by act.
-/
import Derived.Test.YtfggjnjndemipaaAlive
namespace Go.Proofs.Ytfggjnjndemipaa
open Go.RowKit
set_option linter.unusedVariables false
set_option linter.unusedSimpArgs false

/-- The words behind the first k acts, and the step that act k makes. -/
def runW (n : Nat) (f : Nat → Int) (a : Nat → Stp) : Nat → (Nat → Int)
  | 0 => f
  | k + 1 => wordsOf n (runW n f a k) (a k)
def runS (n : Nat) (f : Nat → Int) (a : Nat → Stp) (k : Nat) : Stp := stepOf n (runW n f a k) (a k)

/-- Block g is a row of l steps' cells; the first k of them are the steps s. -/
def IsSteps (w : World) (g l k : Nat) (s : Nat → Stp) : Prop := ∃ c : Nat → Value, w.rowIs g 38 (l * 6) c ∧ ∀ j i, j < k → i < 6 → c (j * 6 + i) = (s j).cell i

namespace IsSteps
variable {w w' : World} {g l k : Nat} {s : Nat → Stp}
theorem lt (h : IsSteps w g l k s) : g < w.heap.size := by obtain ⟨c, hr, _⟩ := h; exact hr.lt
theorem some_cell (h : IsSteps w g l k s) {i : Nat} (hi : i < l * 6) : ∃ v, w.cell? ⟨g, i, none⟩ = some v := by obtain ⟨c, hr, _⟩ := h; exact ⟨_, hr.cell hi⟩
theorem frozen (h : IsSteps w g l k s) (i : Nat) : w.frozen? ⟨g, i, none⟩ = false := by obtain ⟨c, hr, _⟩ := h; exact hr.frozen i
theorem block (h : IsSteps w g l k s) (e : w'.heap[g]? = w.heap[g]?) : IsSteps w' g l k s := by obtain ⟨c, hr, hc⟩ := h; exact ⟨c, hr.of_block e, hc⟩
theorem alloc (h : IsSteps w g l k s) (o : Obj) : IsSteps (w.alloc o) g l k s := by obtain ⟨c, hr, hc⟩ := h; exact ⟨c, hr.alloc o, hc⟩
theorem grown {r : Option Nat} (h : IsSteps w g l k s) (hg : w.grownBy w' r) (hr : some g ≠ r) : IsSteps w' g l k s := h.block (hg.block _ h.lt hr)
theorem below (h : IsSteps w g l k s) (hg : Below w.heap.size w w') : IsSteps w' g l k s := h.block (hg.block _ h.lt)
theorem sees (h : IsSteps w g l l s) : SeesS w w.heap.size (some ⟨g, 0, none⟩) l s := by
  intro j hj
  refine ⟨g, 0, rfl, h.lt, fun i hi => ?_⟩
  obtain ⟨c, hr, hc⟩ := h
  rw [hr.cell (by omega)]
  simp only [Nat.zero_add]
  rw [hc j i hj hi]
/-- Step k, stored: six cells. -/
theorem store (h : IsSteps w g l k s) (x : Stp) (hs : s k = x) :
    IsSteps ((((((w.setCell ⟨g, k * 6, none⟩ (.int .i64 x.hand)).setCell ⟨g, k * 6 + 1, none⟩ (.int .i64 x.act)).setCell ⟨g, k * 6 + 2, none⟩ (.int .i64 x.at_)).setCell ⟨g, k * 6 + 3, none⟩ (.int .u64 x.had)).setCell ⟨g, k * 6 + 4, none⟩ (.int .u64 x.put)).setCell ⟨g, k * 6 + 5, none⟩ (.bool x.ok)) g l (k + 1) s := by
  obtain ⟨c, hr, hc⟩ := h
  refine ⟨_, (((((hr.set _ _).set _ _).set _ _).set _ _).set _ _).set _ _, fun j i hj hi => ?_⟩
  by_cases hjk : j < k
  · have h0 : ¬ j * 6 + i = k * 6 := by omega
    have h1 : ¬ j * 6 + i = k * 6 + 1 := by omega
    have h2 : ¬ j * 6 + i = k * 6 + 2 := by omega
    have h3 : ¬ j * 6 + i = k * 6 + 3 := by omega
    have h4 : ¬ j * 6 + i = k * 6 + 4 := by omega
    have h5 : ¬ j * 6 + i = k * 6 + 5 := by omega
    simp only [h0, h1, h2, h3, h4, h5, if_false]
    exact hc j i hjk hi
  · have : j = k := by omega
    subst this
    rw [hs]
    match i, hi with
    | 0, _ => simp [Stp.cell]
    | 1, _ => simp [Stp.cell]
    | 2, _ => simp [Stp.cell]
    | 3, _ => simp [Stp.cell]
    | 4, _ => simp [Stp.cell]
    | 5, _ => simp [Stp.cell]
end IsSteps

theorem script_long {w : World} {ao ao' : Option Addr} {n cap l cap' : Nat} {f : Nat → Int} (h : Sees w w.heap.size ao n f) (hf : ∀ i, i < n → 0 ≤ f i ∧ f i ≤ 18446744073709551615) (hl : 4096 < n ∨ 65536 < l) :
    Calls Try.prog 11 #[.slice ao n cap, .slice ao' l cap'] w fun e w' => e = .returned (.tuple #[.slice none 0 0, .slice none 0 0, .int .i64 1]) ∧ Below w.heap.size w w' := by
  have H := hide h
  have HF := hide hf
  clear h hf
  by_cases hn : 4096 < n
  · go_enter Try.func11, Try.ntmps11
    go_wp2_with (go_at_call 14; refine (new_long hn).mono ?_; rintro e w' ⟨rfl, hw⟩; obtain rfl := hw.symm)
    refine bodyPost_ret (v := .tuple #[.slice none 0 0, .slice none 0 0, .int .i64 1]) (by simp [results, Try.results11, go_sem]) rfl ⟨rfl, Below.refl _ _⟩
  · have hl' : 65536 < l := by omega
    go_enter Try.func11, Try.ntmps11
    go_wp2_with fail
    refine (new_mem H.out HF.out (by omega)).mono ?_
    rintro e w1 ⟨bm, bw, rfl, hm, hb, _, _⟩
    go_wp2
    refine bodyPost_ret (v := .tuple #[.slice none 0 0, .slice none 0 0, .int .i64 1]) (by simp [results, Try.results11, go_sem]) rfl ⟨rfl, hb⟩

set_option maxHeartbeats 1600000 in
theorem script_any {w : World} {ao ao' : Option Addr} {n cap l cap' : Nat} {f : Nat → Int} {a : Nat → Stp} (h : Sees w w.heap.size ao n f) (hf : ∀ i, i < n → 0 ≤ f i ∧ f i ≤ 18446744073709551615) (hn : n ≤ 4096)
    (h' : SeesS w w.heap.size ao' l a) (hl : l ≤ 65536) (hp : ∀ i, i < l → 0 ≤ (a i).put ∧ (a i).put ≤ 18446744073709551615) :
    Calls Try.prog 11 #[.slice ao n cap, .slice ao' l cap'] w fun e w' => ∃ gs gw, e = .returned (.tuple #[.slice (some ⟨gs, 0, none⟩) l l, .slice (some ⟨gw, 0, none⟩) n n, .int .i64 0]) ∧
      IsSteps w' gs l l (runS n f a) ∧ IsRow w' gw n n (runW n f a l) ∧ Below w.heap.size w w' ∧ w.heap.size ≤ gs ∧ w.heap.size ≤ gw := by
  have H := hide h
  have H' := hide h'
  have HF := hide hf
  have HP := hide hp
  clear h h' hf hp
  have hmk := run_make_z (P := Try.prog) 23 38 _ 6 48 Try.underlying23 info38 l (by omega) (by omega)
  go_enter Try.func11, Try.ntmps11
  go_wp2_with fail
  refine (new_mem H.out HF.out hn).mono ?_
  rintro e w1 ⟨bm, bw, rfl, hm, hb, l1, l2⟩
  have s0 : IsSteps (w1.alloc (.cells (madeCells #[.int .i64 0, .int .i64 0, .int .i64 0, .int .u64 0, .int .u64 0, .bool false] (l * 6)) 38)) w1.heap.size l 0 (runS n f a) :=
    ⟨fun i => ((madeCells #[.int .i64 0, .int .i64 0, .int .i64 0, .int .u64 0, .int .u64 0, .bool false] (l * 6))[i]?).getD default, by
      have := World.rowIs_alloc w1 (madeCells #[.int .i64 0, .int .i64 0, .int .i64 0, .int .u64 0, .int .u64 0, .bool false] (l * 6)) 38 (fun i => ((madeCells #[.int .i64 0, .int .i64 0, .int .i64 0, .int .u64 0, .int .u64 0, .bool false] (l * 6))[i]?).getD default) (fun i hi => by simp [hi])
      rwa [size_madeCells] at this, fun j i hj => absurd hj (Nat.not_lt_zero _)⟩
  have S0 := hide s0
  have b0 : Below w.heap.size w (w1.alloc (.cells (madeCells #[.int .i64 0, .int .i64 0, .int .i64 0, .int .u64 0, .int .u64 0, .bool false] (l * 6)) 38)) := hb.alloc hb.size _
  have B0 := hide b0
  have M0 := hide (hm.alloc (.cells (madeCells #[.int .i64 0, .int .i64 0, .int .i64 0, .int .u64 0, .int .u64 0, .bool false] (l * 6)) 38))
  have hgs : w.heap.size ≤ w1.heap.size := hb.size
  clear s0 b0 hm hb
  go_wp2_with fail
  go_loopw [29] (fun i wr => ∃ k : Nat, k ≤ l ∧ i = .int .i64 k ∧ IsMem wr bm bw n (runW n f a k) ∧ IsSteps wr w1.heap.size l k (runS n f a) ∧ Below w.heap.size w wr) (fun i _ => l - (intOf i).toNat)
  case atStart => exact ⟨0, Nat.zero_le _, rfl, by simpa [runW] using M0.out, by simpa using S0.out, by simpa using B0.out⟩
  case round =>
    obtain ⟨k, hk, rfl, hm, hs, hb⟩ := hrel
    by_cases hlt : k < l
    · obtain ⟨b, off, rfl, hbl, hcc⟩ := H'.out k hlt
      have hcx : ∀ i, i < 6 → wr.cell? ⟨b, off + k * 6 + i, none⟩ = some ((a k).cell i) := fun i hi => (hb.cell (p := ⟨b, off + k * 6 + i, none⟩) hbl).trans (hcc i hi)
      have p0 := hcx 0 (by omega)
      have p1 := hcx 1 (by omega)
      have p2 := hcx 2 (by omega)
      have p3 := hcx 3 (by omega)
      have p4 := hcx 4 (by omega)
      have p5 := hcx 5 (by omega)
      simp only [Stp.cell, Nat.add_zero] at p0 p1 p2 p3 p4 p5
      clear hcc hcx
      go_wp2_with fail
      refine (do_mem (hm.alloc _) (a k) (HP.out k hlt)).mono ?_
      rintro e w2 ⟨rfl, hm2, hg2⟩
      simp only [Stp.val]
      have hne : some w1.heap.size ≠ some bw := by
        intro hx
        obtain ⟨c, hr, _⟩ := hs
        obtain ⟨c1, h1, _⟩ := hr
        obtain ⟨c2, h2, _⟩ := hm.row
        cases hx
        rw [h1] at h2; cases h2
      have hs2 := (hs.alloc (.cells #[.int .i64 (a k).hand, .int .i64 (a k).act, .int .i64 (a k).at_, .int .u64 (a k).had, .int .u64 (a k).put, .bool (a k).ok] 38)).grown hg2 hne
      have hb2 : Below w.heap.size w w2 := (hb.alloc hb.size _).trans (grown_below hg2 (by have := hb.size; simp; omega) l2)
      have hm3 : IsMem w2 bm bw n (runW n f a (k + 1)) := hm2
      have hne2 : bm ≠ w1.heap.size := by
        intro hx
        obtain ⟨c, hr, _⟩ := hs
        obtain ⟨c1, h1, _⟩ := hr
        obtain ⟨c2, h2, _⟩ := hm.head
        rw [hx, h1] at h2; cases h2
      have HM3 := hide hm3
      have HB2 := hide hb2
      have HS2 := hide hs2
      clear hs hb hm hm2 hg2 p0 p1 p2 p3 p4 p5 hb2 hm3
      obtain ⟨v0, c0⟩ := hs2.some_cell (i := k * 6) (by omega)
      obtain ⟨v1, c1⟩ := hs2.some_cell (i := k * 6 + 1) (by omega)
      obtain ⟨v2, c2⟩ := hs2.some_cell (i := k * 6 + 2) (by omega)
      obtain ⟨v3, c3⟩ := hs2.some_cell (i := k * 6 + 3) (by omega)
      obtain ⟨v4, c4⟩ := hs2.some_cell (i := k * 6 + 4) (by omega)
      obtain ⟨v5, c5⟩ := hs2.some_cell (i := k * 6 + 5) (by omega)
      have z0 := hs2.frozen (k * 6)
      have z1 := hs2.frozen (k * 6 + 1)
      have z2 := hs2.frozen (k * 6 + 2)
      have z3 := hs2.frozen (k * 6 + 3)
      have z4 := hs2.frozen (k * 6 + 4)
      have z5 := hs2.frozen (k * 6 + 5)
      clear hs2
      go_wp2
      go_roundw
      case rel =>
        refine ⟨k + 1, by omega, by go_num, ?_, HS2.out.store _ rfl, ?_⟩
        · exact (((((HM3.out.setOther hne2 (by intro hx; exact hne (by rw [hx])) _).setOther hne2 (by intro hx; exact hne (by rw [hx])) _).setOther hne2 (by intro hx; exact hne (by rw [hx])) _).setOther hne2 (by intro hx; exact hne (by rw [hx])) _).setOther hne2 (by intro hx; exact hne (by rw [hx])) _).setOther hne2 (by intro hx; exact hne (by rw [hx])) _
        · exact (((((HB2.out.setCell hgs _).setCell hgs _).setCell hgs _).setCell hgs _).setCell hgs _).setCell hgs _
      case measure => simp [intOf]; omega
    · have hkl : k = l := by omega
      subst hkl
      go_wp2_with fail
      refine (words_mem hm).mono ?_
      rintro e w3 ⟨g, rfl, hr3, hb3, hg3⟩
      go_wp2
      refine bodyPost_ret (v := .tuple #[.slice (some ⟨w1.heap.size, 0, none⟩) k k, .slice (some ⟨g, 0, none⟩) n n, .int .i64 0]) (by simp [results, Try.results11, go_sem]) rfl ⟨_, _, rfl, hs.below hb3, hr3, hb.trans (hb3.mono hb.size), hgs, Nat.le_trans hb.size hg3⟩
end Go.Proofs.Ytfggjnjndemipaa
