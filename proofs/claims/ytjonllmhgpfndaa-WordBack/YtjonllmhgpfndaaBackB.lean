/-
  What the law WordBack does at a call: it answers true and turns nothing that was there, for every word, every object and every two numbers.
-/
import Derived.Test.YtjonllmhgpfndaaBackA
namespace Go.Proofs.Ytjonllmhgpfndaa
namespace Back
open Go.RowKit
set_option linter.unusedVariables false
theorem bcell {W w1 : World} (hb : Below W.heap.size W w1) : ∀ b o, b < W.heap.size → w1.cell? ⟨b, o, none⟩ = W.cell? ⟨b, o, none⟩ :=
  fun b o h => hb.cell (p := ⟨b, o, none⟩) h
theorem bfroz {W w1 : World} (hb : Below W.heap.size W w1) : ∀ b o, b < W.heap.size → w1.frozen? ⟨b, o, none⟩ = W.frozen? ⟨b, o, none⟩ :=
  fun b o h => hb.frozen (p := ⟨b, o, none⟩) h

set_option maxRecDepth 100000 in
set_option maxHeartbeats 400000 in
theorem walk (x : Int) (used live final taken : Bool) (age gen link next l m : Int) (s : Value) (x0 : 0 ≤ x) (x1 : x < 18446744073709551616) (g0 : 0 ≤ gen) (w : World) :
    Calls Try.prog 6 #[.int .u64 x, .agg #[.bool used, .bool live, .bool final, .bool taken, .int .i64 age, .int .u64 gen, .int .u64 link, .int .u64 next, s], .agg #[.int .i64 l, .int .i64 m]] w
      fun e w' => e = .returned (.bool true) ∧ Below w.heap.size w w' := by
  go_enter Try.func6, Try.ntmps6
  go_wp2_with fail
  refine (awake_any _).mono ?_
  rintro e w1 ⟨rfl, hb⟩
  have hc := bcell hb
  have hf := bfroz hb
  have hs1 : w.heap.size + 1 < w1.heap.size := by have := hb.size; simp at this; omega
  go_wp2_with (first | (go_at_call 10; refine (index_any _ x0 x1 _).mono ?_; rintro e w' ⟨rfl, rfl⟩) | (go_at_call 12; refine (gen_any _ x0 x1 _).mono ?_; rintro e w' ⟨rfl, rfl⟩) | (go_at_call 8; refine (handle_back _ x0 x1 _).mono ?_; rintro e w' ⟨rfl, rfl⟩) | (go_at_call 14; refine (tagged_back _ x0 x1 _).mono ?_; rintro e w' ⟨rfl, rfl⟩))
  refine (bump_fresh _ _ x0 x1 _).mono ?_
  rintro e w2 ⟨b, rfl, rfl, b0, b1, hne, hbi, hbg⟩
  have hwr := wrap32_hi (x / 4294967296 + 1)
  go_wp2_with fail
  go_quiet ((first | (go_at_call 10; refine Calls.quiet_of_same (index_any _ ?_ ?_ _) <;> omega) | (go_at_call 12; refine Calls.quiet_of_same (gen_any _ ?_ ?_ _) <;> omega)))
  clear hne hbi hbg b0 b1 hwr
  go_wp2_with fail
  refine (unpack_word x x0 x1 _).mono ?_
  unfold obj
  rintro e w3 ⟨rfl, hb3⟩
  have hs3 : w2.heap.size ≤ w3.heap.size := hb3.size
  have hc3 : ∀ b o, b < w2.heap.size → w3.cell? ⟨b, o, none⟩ = w2.cell? ⟨b, o, none⟩ := fun b o h => hb3.cell (p := ⟨b, o, none⟩) h
  have hf3 : ∀ b o, b < w2.heap.size → w3.frozen? ⟨b, o, none⟩ = w2.frozen? ⟨b, o, none⟩ := fun b o h => hb3.frozen (p := ⟨b, o, none⟩) h
  go_wp2_with fail
  refine (pack_back x x0 x1 _).mono ?_
  rintro e w4 ⟨rfl, hb4⟩
  have hc4 := bcell hb4
  have hf4 := bfroz hb4
  have hs4 : w3.heap.size < w4.heap.size := by have := hb4.size; simp at this; omega
  have hw1 := white_same x
  have hw2 := white_other x
  have hn := numB_01 x 2
  go_wp2_with fail
  go_quiet ((first | (go_at_call 12; refine Calls.quiet_of_same (gen_any _ ?_ ?_ _) <;> omega) | (go_at_call 27; refine Calls.quiet_of_same (white_word _ _ _ x0 x1 _))))
  have hs2 : w.heap.size + 2 ≤ w2.heap.size := by omega
  have b23 : Below w2.heap.size w2 w3 := (below_drewN (Below.refl _ w2) _).trans hb3
  have b24 : Below w2.heap.size w2 w4 := (b23.alloc hs3 _).trans (hb4.mono (by simp; omega))
  have bW := hb.trans (b24.mono (by simp; omega))
  have cell4 : ∀ b o, b < w.heap.size + 2 → w4.cell? ⟨b, o, none⟩ = ((w.alloc (.cells #[.bool used, .bool live, .bool final, .bool taken, .int .i64 age, .int .u64 gen, .int .u64 link, .int .u64 next, s] 31)).alloc (.cells #[.int .i64 l, .int .i64 m] 48)).cell? ⟨b, o, none⟩ := fun b o h => bcell bW b o (by simpa using h)
  have k0 : w4.cell? ⟨w.heap.size, 0, none⟩ = some (.bool used) := by rw [cell4 _ _ (by omega)]; simp
  have k1 : w4.cell? ⟨w.heap.size, 1, none⟩ = some (.bool live) := by rw [cell4 _ _ (by omega)]; simp
  have k2 : w4.cell? ⟨w.heap.size, 2, none⟩ = some (.bool final) := by rw [cell4 _ _ (by omega)]; simp
  have k3 : w4.cell? ⟨w.heap.size, 3, none⟩ = some (.bool taken) := by rw [cell4 _ _ (by omega)]; simp
  have k4 : w4.cell? ⟨w.heap.size, 4, none⟩ = some (.int .i64 age) := by rw [cell4 _ _ (by omega)]; simp
  have k5 : w4.cell? ⟨w.heap.size, 5, none⟩ = some (.int .u64 gen) := by rw [cell4 _ _ (by omega)]; simp
  have k6 : w4.cell? ⟨w.heap.size, 6, none⟩ = some (.int .u64 link) := by rw [cell4 _ _ (by omega)]; simp
  have k7 : w4.cell? ⟨w.heap.size, 7, none⟩ = some (.int .u64 next) := by rw [cell4 _ _ (by omega)]; simp
  have k8 : w4.cell? ⟨w.heap.size, 8, none⟩ = some s := by rw [cell4 _ _ (by omega)]; simp
  have kl : w4.cell? ⟨w.heap.size + 1, 0, none⟩ = some (.int .i64 l) := by rw [cell4 _ _ (by omega)]; simp
  have km : w4.cell? ⟨w.heap.size + 1, 1, none⟩ = some (.int .i64 m) := by rw [cell4 _ _ (by omega)]; simp
  have kf : w4.frozen? ⟨w.heap.size, 8, none⟩ = false := by rw [bfroz bW _ _ (by simp; omega)]; simp
  have bel : Below w.heap.size w w4 := (((Below.refl _ w).alloc (Nat.le_refl _) _).alloc (by simp) _).trans (bW.mono (by simp; omega))
  have BEL : Hid (Below w.heap.size w w4) := bel
  clear hc hf hc3 hf3 hc4 hf4 hb hb3 hb4 bW cell4 b23 b24 bel hw1 hw2 hn
  go_wp2_with fail
  have hc2 := and1_i64 m
  generalize hce : bits BinOp.and IntKind.i64 m 1 = c2 at *
  refine (pack_word _ _ _ _ _ _ _ _ _ _ g0 _).mono ?_
  rintro e w5 ⟨rfl, hb5⟩
  obtain ⟨same5, new5, hs5, bel5⟩ := after_store hb5
  have j0 := (same5 w.heap.size 0 (by omega) (by simp)).trans k0
  have j1 := (same5 w.heap.size 1 (by omega) (by simp)).trans k1
  have j2 := (same5 w.heap.size 2 (by omega) (by simp)).trans k2
  have j3 := (same5 w.heap.size 3 (by omega) (by simp)).trans k3
  have j4 := (same5 w.heap.size 4 (by omega) (by simp)).trans k4
  have j5 := (same5 w.heap.size 5 (by omega) (by simp)).trans k5
  have j6 := (same5 w.heap.size 6 (by omega) (by simp)).trans k6
  have j7 := (same5 w.heap.size 7 (by omega) (by simp)).trans k7
  have j8 := new5 _ k8 (by omega)
  have jm := (same5 (w.heap.size + 1) 1 (by omega) (by simp)).trans km
  have BEL5 : Hid (Below w.heap.size w w5) := bel5 w BEL.out (by omega)
  clear same5 new5 bel5
  clear k0 k1 k2 k3 k4 k5 k6 k7 k8 kl km kf hb5 BEL
  by_cases hp : packB age gen c2 = true
  · have hE : packE age gen c2 = 0 := by unfold packE; rw [hp]; rfl
    have hV : packV used live final taken age gen c2 = packW used (ownB live c2) final taken age gen := by unfold packV; rw [hp]; rfl
    have hrange : 0 ≤ age ∧ age ≤ 255 ∧ gen ≤ 4294967295 := by unfold packB at hp; simp at hp; omega
    have hl := live_back live c2 hc2
    clear hp
    go_wp2_with fail
    refine (unpack_packed used (ownB live c2) final taken age gen hrange.1 hrange.2.1 g0 hrange.2.2 _).mono ?_
    rintro e w6 ⟨rfl, hb6⟩
    have hs6 : w5.heap.size ≤ w6.heap.size := hb6.size
    have i0 := (bcell hb6 w.heap.size 0 (by omega)).trans j0
    have i1 := (bcell hb6 w.heap.size 1 (by omega)).trans j1
    have i2 := (bcell hb6 w.heap.size 2 (by omega)).trans j2
    have i3 := (bcell hb6 w.heap.size 3 (by omega)).trans j3
    have i4 := (bcell hb6 w.heap.size 4 (by omega)).trans j4
    have i5 := (bcell hb6 w.heap.size 5 (by omega)).trans j5
    have i6 := (bcell hb6 w.heap.size 6 (by omega)).trans j6
    have i7 := (bcell hb6 w.heap.size 7 (by omega)).trans j7
    have i8 := (bcell hb6 w.heap.size 8 (by omega)).trans j8
    have im := (bcell hb6 (w.heap.size + 1) 1 (by omega)).trans jm
    have BEL6 : Hid (Below w.heap.size w w6) := BEL5.out.trans (hb6.mono (by omega))
    have hB6 : w.heap.size + 1 < w6.heap.size := by omega
    have hB6' : w.heap.size < w6.heap.size := by omega
    clear j0 j1 j2 j3 j4 j5 j6 j7 j8 jm BEL5 hb6 hs6 hs5 hs4 hs3 hs2 hs1
    go_wp2_with fail
    go_region
    go_wp2_with fail
    refine (heads_same used live final taken age gen link next _).mono ?_
    rintro e w7 ⟨rfl, hb7⟩
    have BEL7 : Hid (Below w.heap.size w w7) := (Below.drew (BEL6.out.alloc (by omega) _)).trans (hb7.mono (by simp; omega))
    clear BEL6 hb7 i0 i1 i2 i3 i4 i5 i6 i7 i8 im
    by_cases hph : x % 8 ≤ 4
    · go_wp2_with (first | (go_at_call 26; refine (parts_word _ x0 x1 _).mono ?_; rintro e w' ⟨rfl, rfl⟩) | (go_at_call 24; refine (mom_back _ x0 x1 hph _).mono ?_; rintro e w' ⟨rfl, rfl⟩))
      go_ret
      exact ⟨rfl, BEL7.out⟩
    · have hph' : 4 < x % 8 := by omega
      clear hph
      go_wp2_with (first | (go_at_call 26; refine (parts_word _ x0 x1 _).mono ?_; rintro e w' ⟨rfl, rfl⟩) | (go_at_call 24; refine (mom_none _ x0 hph' _).mono ?_; rintro e w' ⟨rfl, rfl⟩))
      go_ret
      exact ⟨rfl, BEL7.out⟩
  · have hE : packE age gen c2 = 10 := by unfold packE; rw [if_neg hp]
    have hV : packV used live final taken age gen c2 = 0 := by unfold packV; rw [if_neg hp]
    clear hp j0 j1 j2 j3 j4 j5 j6 j7 j8 jm
    by_cases hph : x % 8 ≤ 4
    · go_wp2_with (first | (go_at_call 26; refine (parts_word _ x0 x1 _).mono ?_; rintro e w' ⟨rfl, rfl⟩) | (go_at_call 24; refine (mom_back _ x0 x1 hph _).mono ?_; rintro e w' ⟨rfl, rfl⟩))
      go_ret
      exact ⟨rfl, BEL5.out⟩
    · have hph' : 4 < x % 8 := by omega
      clear hph
      go_wp2_with (first | (go_at_call 26; refine (parts_word _ x0 x1 _).mono ?_; rintro e w' ⟨rfl, rfl⟩) | (go_at_call 24; refine (mom_none _ x0 hph' _).mono ?_; rintro e w' ⟨rfl, rfl⟩))
      go_ret
      exact ⟨rfl, BEL5.out⟩
end Back
end Go.Proofs.Ytjonllmhgpfndaa
