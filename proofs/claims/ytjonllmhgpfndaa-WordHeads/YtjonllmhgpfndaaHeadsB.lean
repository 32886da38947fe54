/-
  What the law WordHeads does at a call: it answers true and turns nothing that was there, for every object whose slots are within the form's reach.
-/
import Derived.Test.YtjonllmhgpfndaaAwake
import Derived.Test.YtjonllmhgpfndaaUnpack
import Derived.Test.YtjonllmhgpfndaaHeadsA
namespace Go.Proofs.Ytjonllmhgpfndaa
namespace Heads
open Go.RowKit
set_option linter.unusedVariables false

theorem info22 : (Try.prog.info? 22).map (fun i => (i.zero, i.size, i.bytes)) = some (some (.int .u64 0), 1, 8) := by kernel_rfl
theorem bcell {W w1 : World} (hb : Below W.heap.size W w1) : ∀ b o, b < W.heap.size → w1.cell? ⟨b, o, none⟩ = W.cell? ⟨b, o, none⟩ :=
  fun b o h => hb.cell (p := ⟨b, o, none⟩) h

set_option maxHeartbeats 400000 in
theorem walk (used live final taken : Bool) (age gen link next c x : Int) (ao : Option Addr) (len cap : Nat) (zs : List Int) (g0 : 0 ≤ gen) (x0 : 0 ≤ x) (x1 : x < 18446744073709551616)
    (w : World) (hnil : ao = none → len = 0 ∧ cap = 0) (hreach : len * 8 ≤ 140737488351232) (hz : zs.length = len)
    (hcell : ∀ j, j < len → ∃ b off, ao = some ⟨b, off, none⟩ ∧ b < w.heap.size ∧ w.cell? ⟨b, off + j, none⟩ = some (.int .u64 (zs.getD j 0))) :
    Calls Try.prog 4 #[.agg #[.bool used, .bool live, .bool final, .bool taken, .int .i64 age, .int .u64 gen, .int .u64 link, .int .u64 next, .slice ao len cap], .int .i64 c, .int .u64 x] w
      fun e w' => e = .returned (.bool true) ∧ Below w.heap.size w w' := by
  obtain ⟨i0, hi, hz0, hz1, hz2⟩ := info_parts info22
  go_enter Try.func4, Try.ntmps4
  go_wp2_with fail
  refine (awake_any _).mono ?_
  rintro e w1 ⟨rfl, hb⟩
  have hc := bcell hb
  have hs1 : w.heap.size < w1.heap.size := by have := hb.size; simp at this; omega
  have HS : Hid (∀ j, j < len → ∃ b off, ao = some ⟨b, off, none⟩ ∧ b < w.heap.size ∧ w.cell? ⟨b, off + j, none⟩ = some (.int .u64 (zs.getD j 0))) := hcell
  clear hcell
  have hcl : ∀ ad, ao = some ad → ∀ j u, (zs.map (Value.int .u64))[j]? = some u → (w1.alloc (.cells #[] 22)).cell? (ad.add j) = some u := by
    intro ad hao j u hu
    have hj : j < len := by
      have := (List.getElem?_eq_some_iff.1 hu).1
      simpa [hz] using this
    obtain ⟨b, off, he, hbl, hcc⟩ := HS.out j hj
    rw [hao] at he
    cases he
    have hu' : u = .int .u64 (zs.getD j 0) := by
      have hjz : j < zs.length := by omega
      simp [hjz] at hu
      rw [← hu]; simp [List.getD, hjz]
    subst hu'
    have e1 : (w1.alloc (.cells #[] 22)).cell? ⟨b, off + j, none⟩ = w1.cell? ⟨b, off + j, none⟩ := World.cell?_alloc_past _ _ _ (by show b < w1.heap.size; omega)
    rw [Go.WideShapes.add_plain, e1, hc b (off + j) (by simp; omega), ← hcc]
    exact World.cell?_alloc_past _ _ _ (by show b < w.heap.size; omega)
  have HC := hide hcl
  clear hcl
  have h1c : ∀ u ∈ zs.map (Value.int .u64), u.oneCell' = true := by intro u hu; obtain ⟨n, _, rfl⟩ := List.mem_map.1 hu; rfl
  have H1 := hide h1c
  clear h1c
  have hN := hide hnil
  clear hnil
  go_wp2_with (first | (at_builtin; refine wpList_append_opt rfl (.tmp 21) (.tmp 23) 29 rfl (w.heap.size + 1) 22 i0 (.int .u64 0) 1 8 Try.underlying29 hi hz0 hz1 hz2 rfl (by decide) (.slice (some ⟨w1.heap.size, 0, none⟩) 0 0) 0 [] rfl (World.ownsRow_lit _ #[] 0 (by omega) (by unfold maxLen; omega) rfl) ao len cap (zs.map (Value.int .u64)) rfl (unhide hN) (by simp [hz]) (unhide HC) (unhide H1) (by unfold maxLen; omega) (by omega) (by simp; omega) ?_; intro v1 w2 hown1 hgrow1) | (at_builtin; go_loud (refine wpList_append_own _ rfl (.tmp 24) (.tmp 25) 29 rfl (w.heap.size + 1) 22 i0 (.int .u64 0) 1 8 Try.underlying29 hi hz0 hz1 hz2 rfl (by decide) v1 (0 + len) ([] ++ zs.map (Value.int .u64)) rfl (hown1.alloc _) ⟨w2.heap.size, 0, none⟩ 1 1 [.int .u64 77] rfl rfl (cell_one_new _ _ _) (by intro u hu; simp at hu; subst hu; rfl) (by unfold maxLen; omega) (by omega) (by have := hgrow1.size; simp at this; simp; omega) ?_; intro v2 w3 hown2 hgrow2 _; obtain ⟨bel3, g, cap', rfl, hg1, hg2, hg3, hg4, hg5⟩ := appended (W := w.alloc (.cells #[.bool used, .bool live, .bool final, .bool taken, .int .i64 age, .int .u64 gen, .int .u64 link, .int .u64 next, .slice ao len cap] 31)) hz hb (by simpa using hown1) (by exact hgrow1) (by simpa using hown2) (by exact hgrow2); clear hown1 hgrow1 hown2 hgrow2 hc hb hs1; have hc := bcell bel3; have hs3 : w.heap.size < w3.heap.size := by have := bel3.size; simp at this; omega)))
  refine (pack_ref _ _ _ _ _ _ _ _ _ _ g0 _).mono ?_
  rintro e w4 ⟨rfl, hb4⟩
  have hc4 := bcell hb4
  have hs4 : w3.heap.size < w4.heap.size := by have := hb4.size; simp at this; omega
  have hgB : w.heap.size < g := by simp at hg1; omega
  go_wp2_with fail
  refine (pack_word _ _ _ _ _ _ _ _ _ _ g0 _).mono ?_
  rintro e w5 ⟨rfl, hb5⟩
  have hc5 := bcell hb5
  have hs5 : w4.heap.size ≤ w5.heap.size := hb5.size
  go_wp2_with fail
  refine (unpack_ref x x0 x1 _).mono ?_
  unfold obj
  rintro e w6 ⟨rfl, hb6⟩
  have hc6 := bcell hb6
  have hs6 : w5.heap.size ≤ w6.heap.size := hb6.size
  go_wp2_with fail
  refine (unpack_word x x0 x1 _).mono ?_
  unfold obj
  rintro e w7 ⟨rfl, hb7⟩
  have hc7 := bcell hb7
  have hs7 : w6.heap.size < w7.heap.size := by have := hb7.size; simp at this; omega
  go_wp2_with fail
  refine (heads_same _ _ _ _ _ _ _ _ _).mono ?_
  rintro e w8 ⟨rfl, hb8⟩
  have b38 : Below w3.heap.size w3 w8 :=
    (((((((Below.refl _ w3).alloc (Nat.le_refl _) _).trans (hb4.mono (by simp))).trans (hb5.mono (by omega))).trans (hb6.mono (by omega))).alloc (by omega) _).trans (hb7.mono (by simp; omega))).alloc (by omega) _ |>.trans (hb8.mono (by simp; omega))
  have e8 : w8.cell? ⟨w.heap.size, 8, none⟩ = some (.slice ao len cap) := by
    rw [b38.cell (p := ⟨w.heap.size, 8, none⟩) hs3, hc w.heap.size 8 (by simp)]; simp
  have f8 : w8.cell? ⟨g, len, none⟩ = some (.int .u64 77) := (b38.cell (p := ⟨g, len, none⟩) hg2).trans hg4
  have r8 : ∀ j, j < len → w8.cell? ⟨g, j, none⟩ = some (.int .u64 (zs.getD j 0)) := fun j hj => (b38.cell (p := ⟨g, j, none⟩) hg2).trans (hg5 j hj)
  have bel : Below w.heap.size w w8 := (((Below.refl _ w).alloc (Nat.le_refl _) _).trans (bel3.mono (by simp))).trans (b38.mono (by omega))
  have BEL := hide bel
  have R8 := hide r8
  clear hc4 hc5 hc6 hc7 hc hb4 hb5 hb6 hb7 hb8 b38 r8 bel bel3 hg1 hg4 hg5
  clear HC H1
  go_wp2_with fail
  go_loop [87] (fun i => ∃ k : Nat, k ≤ len ∧ i = .int .i64 k) (fun i => len - (intOf i).toNat)
  case atStart => exact ⟨0, Nat.zero_le _, rfl⟩
  case round =>
    obtain ⟨k, hk, rfl⟩ := hrel
    by_cases hlt : k < len
    · obtain ⟨b, off, rfl, hbl, hcc⟩ := HS.out k hlt
      have hcw : w8.cell? ⟨b, off + k, none⟩ = some (.int .u64 (zs.getD k 0)) := (BEL.out.cell (p := ⟨b, off + k, none⟩) hbl).trans hcc
      have hcg := R8.out k hlt
      clear hcc
      go_wp2
      go_round
      case rel => exact ⟨k + 1, by omega, by go_num⟩
      case measure => simp [intOf]; omega
    · go_wp2
      go_ret
      exact ⟨rfl, BEL.out⟩
end Heads
end Go.Proofs.Ytjonllmhgpfndaa
