/-
  Lemmas: VwEq, VwEr, WordVP, WordVR, VwBn.
-/
import Derived.Test.YtecjegjnnahddaaGreatTp10
import Derived.Test.YtecjegjnnahddaaGreatTp03
import Derived.Deep.QuietTactic
import Derived.BigQuiet
import Derived.Test.YtecjegjnnahddaaGreatTp07
/-
  View: the package's comparison of lists
-/
namespace Go.Proofs.YtecjegjnnahddaaGreat
open Go.RowKit
set_option linter.unusedVariables false
set_option linter.unusedSimpArgs false
set_option linter.unnecessarySimpa false
set_option maxRecDepth 20000
namespace Vw
open Shape

theorem drewN_two (w : World) (a b : Nat) : (w.drewN a).drewN b = w.drewN (a + b) := by simp [World.drewN, Nat.add_assoc]
set_option maxHeartbeats 2000000 in
theorem equalU {w : World} {B B' : Nat} {ao ao' : Option Addr} {n n' cap cap' : Nat} {f f' : Nat → Int} (h : Sees w B ao n f) (h' : Sees w B' ao' n' f') (hn : n ≤ 9223372036854775807) (hn' : n' ≤ 9223372036854775807) :
    Calls Tryz.prog 54 #[.slice ao n cap, .slice ao' n' cap'] w fun e w' => Tells e (n = n' ∧ ∀ i, i < n → f i = f' i) ∧ ∃ m, w' = w.drewN m := by
  have H := hide h
  have H' := hide h'
  clear h h'
  by_cases hnn : n = n'
  · subst hnn
    go_enter Tryz.func54, Tryz.ntmps54
    go_wp2_with fail
    go_loopw [13] (fun i wr => ∃ k m : Nat, k ≤ n ∧ i = .int .i64 k ∧ Hid (∀ j, j < k → f j = f' j) ∧ wr = w.drewN m) (fun i _ => n - (intOf i).toNat)
    case atStart => exact ⟨0, 0, Nat.zero_le _, rfl, fun j hj => absurd hj (by omega), rfl⟩
    case round =>
      obtain ⟨k, m, hk, rfl, HK, rfl⟩ := hrel
      by_cases hlt : k < n
      · obtain ⟨b, off, rfl, hbl, hcc⟩ := H.out k hlt
        obtain ⟨b', off', rfl, hbl', hcc'⟩ := H'.out k hlt
        have hkn : (k : Int) < (n : Int) := by omega
        by_cases he : f k = f' k
        · have he2 : (f k != f' k) = false := by simp [he]
          have HE := hide he
          clear he
          go_wp2
          go_quiet (fail)
          go_wp2
          go_roundw
          case rel => exact ⟨k + 1, _, by omega, by go_num, fun j hj => by (by_cases e : j < k); exact HK.out j e; (cases (show j = k by omega)); exact HE.out, rfl⟩
          case measure => simp [intOf]; omega
        · have he2 : (f k != f' k) = true := by simp [he]
          have HE := hide he
          clear he
          go_wp2
          go_quiet (fail)
          go_wp2
          go_ret
          exact ⟨Tells.no (fun h => HE.out (by first | exact h.2 k hlt | exact h k hlt)), _, drewN_two _ _ _⟩
      · have hkn : ¬ (k : Int) < (n : Int) := by omega
        go_wp2
        go_ret
        exact ⟨Tells.yes (by first | exact fun i hi => HK.out i (by omega) | exact ⟨rfl, fun i hi => HK.out i (by omega)⟩), _, rfl⟩
  · have hnb : ((n : Int) != (n' : Int)) = true := by simp; omega
    have HH := hide hnn
    clear hnn
    go_enter Tryz.func54, Tryz.ntmps54
    go_wp2_with fail
    go_ret
    exact ⟨Tells.no (fun h => HH.out h.1), 0, rfl⟩
set_option maxHeartbeats 2000000 in
theorem equalI {w : World} {ao ao' : Option Addr} {l l' : List Int} {cap cap' : Nat} (h : SeesN w ao l) (h' : SeesN w ao' l') (hn : l.length ≤ 9223372036854775807) (hn' : l'.length ≤ 9223372036854775807) :
    Calls Tryz.prog 58 #[.slice ao l.length cap, .slice ao' l'.length cap'] w fun e w' => Tells e (l = l') ∧ ∃ m, w' = w.drewN m := by
  have H := hide h
  have H' := hide h'
  obtain ⟨n, hln⟩ : ∃ n, l.length = n := ⟨_, rfl⟩
  obtain ⟨n', hln'⟩ : ∃ n, l'.length = n := ⟨_, rfl⟩
  rw [hln] at hn ⊢
  rw [hln'] at hn' ⊢
  have HL := hide hln
  have HL' := hide hln'
  clear h h' hln hln'
  by_cases hnn : n = n'
  · subst hnn
    go_enter Tryz.func58, Tryz.ntmps58
    go_wp2_with fail
    go_loopw [13] (fun i wr => ∃ k m : Nat, k ≤ n ∧ i = .int .i64 k ∧ Hid (∀ j, j < k → l[j]? = l'[j]?) ∧ wr = w.drewN m) (fun i _ => n - (intOf i).toNat)
    case atStart => exact ⟨0, 0, Nat.zero_le _, rfl, fun j hj => absurd hj (by omega), rfl⟩
    case round =>
      obtain ⟨k, m, hk, rfl, HK, rfl⟩ := hrel
      by_cases hlt : k < n
      · obtain ⟨x, hx⟩ : ∃ x, l[k]? = some x := ⟨l[k]'(by have := HL.out; omega), List.getElem?_eq_getElem _⟩
        obtain ⟨y, hy⟩ : ∃ x, l'[k]? = some x := ⟨l'[k]'(by have := HL'.out; omega), List.getElem?_eq_getElem _⟩
        obtain ⟨b, off, rfl, hbl, hcc⟩ := H.out k x hx
        obtain ⟨b', off', rfl, hbl', hcc'⟩ := H'.out k y hy
        have HX := hide hx
        have HY := hide hy
        clear hx hy
        have hkn : (k : Int) < (n : Int) := by omega
        by_cases he : x = y
        · have he2 : (x != y) = false := by simp [he]
          have HE := hide he
          clear he
          go_wp2
          go_quiet (fail)
          go_wp2
          go_roundw
          case rel => exact ⟨k + 1, _, by omega, by go_num, fun j hj => by (by_cases e : j < k); exact HK.out j e; (cases (show j = k by omega)); rw [HX.out, HY.out, HE.out], rfl⟩
          case measure => simp [intOf]; omega
        · have he2 : (x != y) = true := by simp [he]
          have HE := hide he
          clear he
          go_wp2
          go_quiet (fail)
          go_wp2
          go_ret
          exact ⟨Tells.no (fun h => HE.out (by have h1 := HX.out; have h2 := HY.out; rw [h] at h1; rw [h1] at h2; injection h2)), _, drewN_two _ _ _⟩
      · have hkn : ¬ (k : Int) < (n : Int) := by omega
        go_wp2
        go_ret
        refine ⟨Tells.yes (List.ext_getElem? (fun i => ?_)), _, rfl⟩
        by_cases hi : i < n
        · exact HK.out i (by omega)
        · rw [List.getElem?_eq_none (by have := HL.out; omega), List.getElem?_eq_none (by have := HL'.out; omega)]
  · have hnb : ((n : Int) != (n' : Int)) = true := by simp; omega
    have HH := hide hnn
    clear hnn
    go_enter Tryz.func58, Tryz.ntmps58
    go_wp2_with fail
    go_ret
    exact ⟨Tells.no (fun h => HH.out (by have h1 := HL.out; have h2 := HL'.out; rw [← h1, ← h2, h])), 0, rfl⟩
end Vw
end Go.Proofs.YtecjegjnnahddaaGreat

/-
  View: the package's comparison of lists of lists
-/
namespace Go.Proofs.YtecjegjnnahddaaGreat
open Go.RowKit
set_option linter.unusedVariables false
set_option linter.unusedSimpArgs false
set_option linter.unnecessarySimpa false
set_option maxRecDepth 20000
namespace Vw
open Shape

theorem Tells.is {e : Ending} {p : Prop} (h : Tells e p) (hp : p) : e = .returned (.bool true) := by
  rcases h.get with ⟨_, h2⟩ | ⟨h1, _⟩
  · exact h2
  · exact absurd hp h1
theorem Tells.isnt {e : Ending} {p : Prop} (h : Tells e p) (hp : ¬ p) : e = .returned (.bool false) := by
  rcases h.get with ⟨h1, _⟩ | ⟨_, h2⟩
  · exact absurd h1 hp
  · exact h2

/-- What a view holds is short enough for its lengths to be numbers. -/
structure Len (c : Cv) : Prop where
  na : c.na ≤ 9223372036854775807
  nr : c.nr ≤ 9223372036854775807
  rn : ∀ j, j < c.nr → c.rn j ≤ 9223372036854775807
  nw : c.nw ≤ 9223372036854775807
  no : c.no ≤ 9223372036854775807
  ns : ∀ j, j < c.no → (c.ob j).ns ≤ 9223372036854775807
  fr : c.fr.length ≤ 9223372036854775807
  gr : c.gr.length ≤ 9223372036854775807
  qu : c.qu.length ≤ 9223372036854775807

set_option maxHeartbeats 4000000 in
theorem equalRoots {w : World} {c d : Cv} {a b : Av} (h : Shows w c a) (h' : Shows w d b) (hc : Len c) (hd : Len d) :
    Calls Tryz.prog 55 #[.slice a.ra c.nr a.cr, .slice b.ra d.nr b.cr, .func (.func 54) #[] #[]] w fun e w' => Tells e (c.nr = d.nr ∧ ∀ j, j < c.nr → c.rn j = d.rn j ∧ ∀ i, i < c.rn j → c.rt j i = d.rt j i) ∧ Below w.heap.size w w' := by
  have H := hide h
  have H' := hide h'
  have HC := hide hc
  have HD := hide hd
  have hn1 := hc.nr
  have hn2 := hd.nr
  clear h h' hc hd
  by_cases hnn : c.nr = d.nr
  · have hnb : ((c.nr : Int) != (d.nr : Int)) = false := by simp; omega
    have HN := hide hnn
    clear hnn
    obtain ⟨ra, hra⟩ : ∃ x, a.ra = x := ⟨_, rfl⟩
    obtain ⟨rb, hrb⟩ : ∃ x, b.ra = x := ⟨_, rfl⟩
    rw [hra, hrb]
    have HRA := hide hra
    have HRB := hide hrb
    clear hra hrb
    go_enter Tryz.func55, Tryz.ntmps55
    go_wp2_with fail
    go_loopw [17] (fun i wr => ∃ k m : Nat, k ≤ c.nr ∧ i = .int .i64 k ∧ Hid (∀ j, j < k → c.rn j = d.rn j ∧ ∀ i, i < c.rn j → c.rt j i = d.rt j i) ∧ wr = w.drewN m) (fun i _ => c.nr - (intOf i).toNat)
    case atStart => exact ⟨0, 0, Nat.zero_le _, rfl, fun j hj => absurd hj (by omega), rfl⟩
    case round =>
      obtain ⟨k, m, hk, rfl, HK, rfl⟩ := hrel
      by_cases hlt : k < c.nr
      · obtain ⟨b1, o1, ai, ci, e1, hb1, hc1, hs1⟩ := H.out.rt k hlt
        obtain ⟨b2, o2, aj, cj, e2, hb2, hc2, hs2⟩ := H'.out.rt k (by have := HN.out; omega)
        rw [HRA.out] at e1
        rw [HRB.out] at e2
        subst e1 e2
        have hkn : (k : Int) < (c.nr : Int) := by omega
        have hkn2 : (k : Int) < (d.nr : Int) := by have := HN.out; omega
        have EQ := hide (equalU (w := w.drewN m) (cap := ci) (cap' := cj) hs1 hs2 (HC.out.rn k hlt) (HD.out.rn k (by have := HN.out; omega)))
        have q1 : (w.drewN m).cell? ⟨b1, o1 + k, none⟩ = some (.slice ai (c.rn k) ci) := hc1
        have q2 : (w.drewN m).cell? ⟨b2, o2 + k, none⟩ = some (.slice aj (d.rn k) cj) := hc2
        clear hs1 hs2 hc1 hc2
        by_cases he : c.rn k = d.rn k ∧ ∀ i, i < c.rn k → c.rt k i = d.rt k i
        · have HE := hide he
          clear he
          go_wp2_with (go_at_call 54; refine EQ.out.mono ?_; rintro e w1 ⟨ht, m1, rfl⟩; obtain rfl := ht.is HE.out)
          go_roundw
          case rel => exact ⟨k + 1, _, by omega, by go_num, fun j hj => by (by_cases e : j < k); exact HK.out j e; (cases (show j = k by omega)); exact HE.out, by first | rfl | exact drewN_two _ _ _⟩
          case measure => simp [intOf]; omega
        · have HE := hide he
          clear he
          go_wp2_with (go_at_call 54; refine EQ.out.mono ?_; rintro e w1 ⟨ht, m1, rfl⟩; obtain rfl := ht.isnt HE.out)
          go_ret
          exact ⟨Tells.no (fun h => HE.out (h.2 k hlt)), by first | exact below_drewN (Below.refl _ _) _ | exact below_drewN (below_drewN (Below.refl _ _) _) _⟩
      · have hkn : ¬ (k : Int) < (c.nr : Int) := by omega
        go_wp2
        go_ret
        exact ⟨Tells.yes ⟨HN.out, fun i hi => HK.out i (by omega)⟩, below_drewN (Below.refl _ _) _⟩
  · have hnb : ((c.nr : Int) != (d.nr : Int)) = true := by simp; omega
    have HH := hide hnn
    clear hnn
    go_enter Tryz.func55, Tryz.ntmps55
    go_wp2_with fail
    go_ret
    exact ⟨Tells.no (fun h => HH.out h.1), Below.refl _ _⟩
end Vw
end Go.Proofs.YtecjegjnnahddaaGreat

/-
  Words: Pack and Moment of the package.
-/
namespace Go.Proofs.YtecjegjnnahddaaGreat
open Go.RowKit
set_option linter.unusedVariables false
set_option linter.unusedSimpArgs false
set_option maxRecDepth 20000
set_option maxHeartbeats 400000 in
theorem pack_word_ok_true0 (used final taken : Bool) (age gen link next : Int) (s : Value) (ha0 : 0 ≤ age) (ha1 : age ≤ 255) (hg0 : 0 ≤ gen) (hg1 : gen ≤ 4294967295) (w : World) :
    Calls Tryz.prog 84 #[.agg #[.bool used, .bool true, .bool final, .bool taken, .int .i64 age, .int .u64 gen, .int .u64 link, .int .u64 next, s], .int .i64 0] w fun e w' =>
      e = .returned (.tuple #[.int .u64 (packW used false final taken age gen), .int .i64 0]) ∧ Below w.heap.size w w' := by
  go_enter Tryz.func84, Tryz.ntmps84
  go_wp2_with (go_at_call 94; refine (isColour_any _ _).mono ?_; rintro e w' ⟨rfl, rfl⟩)
  go_quiet ((go_at_call 95; exact Calls.quiet_of_same (bitIf_any _ _ _)))
  go_wp2
  go_ret2
  exact ⟨ret_two (pack_eq used false final taken age gen ha0 ha1 hg0 hg1) rfl, below_box _ _ _⟩

set_option maxHeartbeats 400000 in
theorem pack_word_ok_true1 (used final taken : Bool) (age gen link next : Int) (s : Value) (ha0 : 0 ≤ age) (ha1 : age ≤ 255) (hg0 : 0 ≤ gen) (hg1 : gen ≤ 4294967295) (w : World) :
    Calls Tryz.prog 84 #[.agg #[.bool used, .bool true, .bool final, .bool taken, .int .i64 age, .int .u64 gen, .int .u64 link, .int .u64 next, s], .int .i64 1] w fun e w' =>
      e = .returned (.tuple #[.int .u64 (packW used true final taken age gen), .int .i64 0]) ∧ Below w.heap.size w w' := by
  go_enter Tryz.func84, Tryz.ntmps84
  go_wp2_with (go_at_call 94; refine (isColour_any _ _).mono ?_; rintro e w' ⟨rfl, rfl⟩)
  go_quiet ((go_at_call 95; exact Calls.quiet_of_same (bitIf_any _ _ _)))
  go_wp2
  go_ret2
  exact ⟨ret_two (pack_eq used true final taken age gen ha0 ha1 hg0 hg1) rfl, below_box _ _ _⟩

set_option maxHeartbeats 400000 in
theorem pack_word_ok_false0 (used final taken : Bool) (age gen link next : Int) (s : Value) (ha0 : 0 ≤ age) (ha1 : age ≤ 255) (hg0 : 0 ≤ gen) (hg1 : gen ≤ 4294967295) (w : World) :
    Calls Tryz.prog 84 #[.agg #[.bool used, .bool false, .bool final, .bool taken, .int .i64 age, .int .u64 gen, .int .u64 link, .int .u64 next, s], .int .i64 0] w fun e w' =>
      e = .returned (.tuple #[.int .u64 (packW used true final taken age gen), .int .i64 0]) ∧ Below w.heap.size w w' := by
  go_enter Tryz.func84, Tryz.ntmps84
  go_wp2_with (go_at_call 94; refine (isColour_any _ _).mono ?_; rintro e w' ⟨rfl, rfl⟩)
  go_quiet ((go_at_call 95; exact Calls.quiet_of_same (bitIf_any _ _ _)))
  go_wp2
  go_ret2
  exact ⟨ret_two (pack_eq used true final taken age gen ha0 ha1 hg0 hg1) rfl, below_box _ _ _⟩

set_option maxHeartbeats 400000 in
theorem pack_word_ok_false1 (used final taken : Bool) (age gen link next : Int) (s : Value) (ha0 : 0 ≤ age) (ha1 : age ≤ 255) (hg0 : 0 ≤ gen) (hg1 : gen ≤ 4294967295) (w : World) :
    Calls Tryz.prog 84 #[.agg #[.bool used, .bool false, .bool final, .bool taken, .int .i64 age, .int .u64 gen, .int .u64 link, .int .u64 next, s], .int .i64 1] w fun e w' =>
      e = .returned (.tuple #[.int .u64 (packW used false final taken age gen), .int .i64 0]) ∧ Below w.heap.size w w' := by
  go_enter Tryz.func84, Tryz.ntmps84
  go_wp2_with (go_at_call 94; refine (isColour_any _ _).mono ?_; rintro e w' ⟨rfl, rfl⟩)
  go_quiet ((go_at_call 95; exact Calls.quiet_of_same (bitIf_any _ _ _)))
  go_wp2
  go_ret2
  exact ⟨ret_two (pack_eq used false final taken age gen ha0 ha1 hg0 hg1) rfl, below_box _ _ _⟩

set_option maxHeartbeats 400000 in
theorem pack_word_colour (used live final taken : Bool) (age gen link next : Int) (s : Value) (c : Int) (hb0 : (c == 0) = false) (hb1 : (c == 1) = false) (w : World) :
    Calls Tryz.prog 84 #[.agg #[.bool used, .bool live, .bool final, .bool taken, .int .i64 age, .int .u64 gen, .int .u64 link, .int .u64 next, s], .int .i64 c] w fun e w' =>
      e = .returned (.tuple #[.int .u64 0, .int .i64 10]) ∧ Below w.heap.size w w' := by
  go_enter Tryz.func84, Tryz.ntmps84
  go_wp2_with (go_at_call 94; refine (isColour_any _ _).mono ?_; rintro e w' ⟨rfl, rfl⟩)
  go_ret2
  exact ⟨rfl, below_box _ _ 0⟩

set_option maxHeartbeats 400000 in
theorem pack_word_neg0 (used live final taken : Bool) (age gen link next : Int) (s : Value) (ha : age < 0) (w : World) :
    Calls Tryz.prog 84 #[.agg #[.bool used, .bool live, .bool final, .bool taken, .int .i64 age, .int .u64 gen, .int .u64 link, .int .u64 next, s], .int .i64 0] w fun e w' =>
      e = .returned (.tuple #[.int .u64 0, .int .i64 10]) ∧ Below w.heap.size w w' := by
  go_enter Tryz.func84, Tryz.ntmps84
  go_wp2_with (go_at_call 94; refine (isColour_any _ _).mono ?_; rintro e w' ⟨rfl, rfl⟩)
  go_ret2
  exact ⟨rfl, below_box _ _ 0⟩

set_option maxHeartbeats 400000 in
theorem pack_word_old0 (used live final taken : Bool) (age gen link next : Int) (s : Value) (ha0 : 0 ≤ age) (ha : 255 < age) (w : World) :
    Calls Tryz.prog 84 #[.agg #[.bool used, .bool live, .bool final, .bool taken, .int .i64 age, .int .u64 gen, .int .u64 link, .int .u64 next, s], .int .i64 0] w fun e w' =>
      e = .returned (.tuple #[.int .u64 0, .int .i64 10]) ∧ Below w.heap.size w w' := by
  go_enter Tryz.func84, Tryz.ntmps84
  go_wp2_with (go_at_call 94; refine (isColour_any _ _).mono ?_; rintro e w' ⟨rfl, rfl⟩)
  go_ret2
  exact ⟨rfl, below_box _ _ 0⟩

set_option maxHeartbeats 400000 in
theorem pack_word_gen0 (used live final taken : Bool) (age gen link next : Int) (s : Value) (ha0 : 0 ≤ age) (ha : age ≤ 255) (hg : 4294967295 < gen) (w : World) :
    Calls Tryz.prog 84 #[.agg #[.bool used, .bool live, .bool final, .bool taken, .int .i64 age, .int .u64 gen, .int .u64 link, .int .u64 next, s], .int .i64 0] w fun e w' =>
      e = .returned (.tuple #[.int .u64 0, .int .i64 10]) ∧ Below w.heap.size w w' := by
  go_enter Tryz.func84, Tryz.ntmps84
  go_wp2_with (go_at_call 94; refine (isColour_any _ _).mono ?_; rintro e w' ⟨rfl, rfl⟩)
  go_ret2
  exact ⟨rfl, below_box _ _ 0⟩

set_option maxHeartbeats 400000 in
theorem pack_word_neg1 (used live final taken : Bool) (age gen link next : Int) (s : Value) (ha : age < 0) (w : World) :
    Calls Tryz.prog 84 #[.agg #[.bool used, .bool live, .bool final, .bool taken, .int .i64 age, .int .u64 gen, .int .u64 link, .int .u64 next, s], .int .i64 1] w fun e w' =>
      e = .returned (.tuple #[.int .u64 0, .int .i64 10]) ∧ Below w.heap.size w w' := by
  go_enter Tryz.func84, Tryz.ntmps84
  go_wp2_with (go_at_call 94; refine (isColour_any _ _).mono ?_; rintro e w' ⟨rfl, rfl⟩)
  go_ret2
  exact ⟨rfl, below_box _ _ 0⟩

set_option maxHeartbeats 400000 in
theorem pack_word_old1 (used live final taken : Bool) (age gen link next : Int) (s : Value) (ha0 : 0 ≤ age) (ha : 255 < age) (w : World) :
    Calls Tryz.prog 84 #[.agg #[.bool used, .bool live, .bool final, .bool taken, .int .i64 age, .int .u64 gen, .int .u64 link, .int .u64 next, s], .int .i64 1] w fun e w' =>
      e = .returned (.tuple #[.int .u64 0, .int .i64 10]) ∧ Below w.heap.size w w' := by
  go_enter Tryz.func84, Tryz.ntmps84
  go_wp2_with (go_at_call 94; refine (isColour_any _ _).mono ?_; rintro e w' ⟨rfl, rfl⟩)
  go_ret2
  exact ⟨rfl, below_box _ _ 0⟩

set_option maxHeartbeats 400000 in
theorem pack_word_gen1 (used live final taken : Bool) (age gen link next : Int) (s : Value) (ha0 : 0 ≤ age) (ha : age ≤ 255) (hg : 4294967295 < gen) (w : World) :
    Calls Tryz.prog 84 #[.agg #[.bool used, .bool live, .bool final, .bool taken, .int .i64 age, .int .u64 gen, .int .u64 link, .int .u64 next, s], .int .i64 1] w fun e w' =>
      e = .returned (.tuple #[.int .u64 0, .int .i64 10]) ∧ Below w.heap.size w w' := by
  go_enter Tryz.func84, Tryz.ntmps84
  go_wp2_with (go_at_call 94; refine (isColour_any _ _).mono ?_; rintro e w' ⟨rfl, rfl⟩)
  go_ret2
  exact ⟨rfl, below_box _ _ 0⟩

theorem pack_word (used live final taken : Bool) (age gen link next : Int) (s : Value) (c : Int) (hg0 : 0 ≤ gen) (w : World) :
    Calls Tryz.prog 84 #[.agg #[.bool used, .bool live, .bool final, .bool taken, .int .i64 age, .int .u64 gen, .int .u64 link, .int .u64 next, s], .int .i64 c] w fun e w' =>
      e = .returned (.tuple #[.int .u64 (packV used live final taken age gen c), .int .i64 (packE age gen c)]) ∧ Below w.heap.size w w' := by
  by_cases hc : c = 0 ∨ c = 1
  · by_cases h1 : age < 0
    · have hb : packB age gen c = false := by unfold packB; simp; omega
      unfold packV packE
      rw [hb]
      rcases hc with rfl | rfl
      · exact pack_word_neg0 used live final taken age gen link next s h1 w
      · exact pack_word_neg1 used live final taken age gen link next s h1 w
    · by_cases h2 : 255 < age
      · have hb : packB age gen c = false := by unfold packB; simp; omega
        unfold packV packE
        rw [hb]
        rcases hc with rfl | rfl
        · exact pack_word_old0 used live final taken age gen link next s (by omega) h2 w
        · exact pack_word_old1 used live final taken age gen link next s (by omega) h2 w
      · by_cases h3 : 4294967295 < gen
        · have hb : packB age gen c = false := by unfold packB; simp; omega
          unfold packV packE
          rw [hb]
          rcases hc with rfl | rfl
          · exact pack_word_gen0 used live final taken age gen link next s (by omega) (by omega) h3 w
          · exact pack_word_gen1 used live final taken age gen link next s (by omega) (by omega) h3 w
        · have hb : packB age gen c = true := by unfold packB; simp; omega
          unfold packV packE
          rw [hb]
          rcases hc with rfl | rfl <;> cases live
          · exact pack_word_ok_false0 used final taken age gen link next s (by omega) (by omega) hg0 (by omega) w
          · exact pack_word_ok_true0 used final taken age gen link next s (by omega) (by omega) hg0 (by omega) w
          · exact pack_word_ok_false1 used final taken age gen link next s (by omega) (by omega) hg0 (by omega) w
          · exact pack_word_ok_true1 used final taken age gen link next s (by omega) (by omega) hg0 (by omega) w
  · have hb : packB age gen c = false := by unfold packB; simp; omega
    unfold packV packE
    rw [hb]
    exact pack_word_colour used live final taken age gen link next s c (beq_eq_false_iff_ne.2 (by omega)) (beq_eq_false_iff_ne.2 (by omega)) w

set_option maxHeartbeats 400000 in
theorem mom_word_ok0 (p r : Int) (hp0 : 0 ≤ p) (hp1 : p ≤ 4) (hr0 : 0 ≤ r) (hr1 : r ≤ 72057594037927935) (w : World) :
    Calls Tryz.prog 79 #[.int .i64 p, .int .i64 0, .int .u64 r] w fun e w' => e = .returned (.tuple #[.int .u64 (p + 0 * 8 + r * 256), .int .i64 0]) ∧ w' = w := by
  go_enter Tryz.func79, Tryz.ntmps79
  go_wp2_with (first | (go_at_call 94; refine (isColour_any _ _).mono ?_; rintro e w' ⟨rfl, rfl⟩) | (go_at_call 95; refine (bitIf_any _ _ _).mono ?_; rintro e w' ⟨rfl, rfl⟩))
  go_ret2
  exact ⟨ret2 (mom_eq p 0 r (Or.inl rfl) hp0 hp1 hr0 (by omega) _ rfl) rfl, rfl⟩
set_option maxHeartbeats 400000 in
theorem mom_word_ok1 (p r : Int) (hp0 : 0 ≤ p) (hp1 : p ≤ 4) (hr0 : 0 ≤ r) (hr1 : r ≤ 72057594037927935) (w : World) :
    Calls Tryz.prog 79 #[.int .i64 p, .int .i64 1, .int .u64 r] w fun e w' => e = .returned (.tuple #[.int .u64 (p + 1 * 8 + r * 256), .int .i64 0]) ∧ w' = w := by
  go_enter Tryz.func79, Tryz.ntmps79
  go_wp2_with (first | (go_at_call 94; refine (isColour_any _ _).mono ?_; rintro e w' ⟨rfl, rfl⟩) | (go_at_call 95; refine (bitIf_any _ _ _).mono ?_; rintro e w' ⟨rfl, rfl⟩))
  go_ret2
  exact ⟨ret2 (mom_eq p 1 r (Or.inr rfl) hp0 hp1 hr0 (by omega) _ rfl) rfl, rfl⟩
set_option maxHeartbeats 400000 in
theorem mom_word_neg (p c r : Int) (hp : p < 0) (w : World) :
    Calls Tryz.prog 79 #[.int .i64 p, .int .i64 c, .int .u64 r] w fun e w' => e = .returned (.tuple #[.int .u64 0, .int .i64 10]) ∧ w' = w := by
  go_enter Tryz.func79, Tryz.ntmps79
  go_wp2
  go_ret2
  exact ⟨rfl, rfl⟩
set_option maxHeartbeats 400000 in
theorem mom_word_big (p c r : Int) (hp0 : 0 ≤ p) (hp : 4 < p) (w : World) :
    Calls Tryz.prog 79 #[.int .i64 p, .int .i64 c, .int .u64 r] w fun e w' => e = .returned (.tuple #[.int .u64 0, .int .i64 10]) ∧ w' = w := by
  go_enter Tryz.func79, Tryz.ntmps79
  go_wp2
  go_ret2
  exact ⟨rfl, rfl⟩
set_option maxHeartbeats 400000 in
theorem mom_word_colour (p c r : Int) (hp0 : 0 ≤ p) (hp : p ≤ 4) (hb0 : (c == 0) = false) (hb1 : (c == 1) = false) (w : World) :
    Calls Tryz.prog 79 #[.int .i64 p, .int .i64 c, .int .u64 r] w fun e w' => e = .returned (.tuple #[.int .u64 0, .int .i64 10]) ∧ w' = w := by
  go_enter Tryz.func79, Tryz.ntmps79
  go_wp2_with (first | (go_at_call 94; refine (isColour_any _ _).mono ?_; rintro e w' ⟨rfl, rfl⟩) | (go_at_call 95; refine (bitIf_any _ _ _).mono ?_; rintro e w' ⟨rfl, rfl⟩))
  go_ret2
  exact ⟨rfl, rfl⟩
set_option maxHeartbeats 400000 in
theorem mom_word_round0 (p r : Int) (hp0 : 0 ≤ p) (hp : p ≤ 4) (hr : 72057594037927935 < r) (w : World) :
    Calls Tryz.prog 79 #[.int .i64 p, .int .i64 0, .int .u64 r] w fun e w' => e = .returned (.tuple #[.int .u64 0, .int .i64 10]) ∧ w' = w := by
  go_enter Tryz.func79, Tryz.ntmps79
  go_wp2_with (first | (go_at_call 94; refine (isColour_any _ _).mono ?_; rintro e w' ⟨rfl, rfl⟩) | (go_at_call 95; refine (bitIf_any _ _ _).mono ?_; rintro e w' ⟨rfl, rfl⟩))
  go_ret2
  exact ⟨rfl, rfl⟩
set_option maxHeartbeats 400000 in
theorem mom_word_round1 (p r : Int) (hp0 : 0 ≤ p) (hp : p ≤ 4) (hr : 72057594037927935 < r) (w : World) :
    Calls Tryz.prog 79 #[.int .i64 p, .int .i64 1, .int .u64 r] w fun e w' => e = .returned (.tuple #[.int .u64 0, .int .i64 10]) ∧ w' = w := by
  go_enter Tryz.func79, Tryz.ntmps79
  go_wp2_with (first | (go_at_call 94; refine (isColour_any _ _).mono ?_; rintro e w' ⟨rfl, rfl⟩) | (go_at_call 95; refine (bitIf_any _ _ _).mono ?_; rintro e w' ⟨rfl, rfl⟩))
  go_ret2
  exact ⟨rfl, rfl⟩
theorem mom_word (p c r : Int) (hr0 : 0 ≤ r) (w : World) :
    Calls Tryz.prog 79 #[.int .i64 p, .int .i64 c, .int .u64 r] w fun e w' => e = .returned (.tuple #[.int .u64 (momV p c r), .int .i64 (momE p c r)]) ∧ w' = w := by
  by_cases h1 : p < 0
  · have hb : momB p c r = false := by unfold momB; simp; omega
    unfold momV momE; rw [hb]
    exact mom_word_neg p c r h1 w
  · by_cases h2 : 4 < p
    · have hb : momB p c r = false := by unfold momB; simp; omega
      unfold momV momE; rw [hb]
      exact mom_word_big p c r (by omega) h2 w
    · by_cases hc : c = 0 ∨ c = 1
      · by_cases h3 : 72057594037927935 < r
        · have hb : momB p c r = false := by unfold momB; simp; omega
          unfold momV momE; rw [hb]
          rcases hc with rfl | rfl
          · exact mom_word_round0 p r (by omega) (by omega) h3 w
          · exact mom_word_round1 p r (by omega) (by omega) h3 w
        · have hb : momB p c r = true := by unfold momB; simp; omega
          unfold momV momE; rw [hb]
          rcases hc with rfl | rfl
          · exact mom_word_ok0 p r (by omega) (by omega) hr0 (by omega) w
          · exact mom_word_ok1 p r (by omega) (by omega) hr0 (by omega) w
      · have hb : momB p c r = false := by unfold momB; simp; omega
        unfold momV momE; rw [hb]
        exact mom_word_colour p c r (by omega) (by omega) (beq_eq_false_iff_ne.2 (by omega)) (beq_eq_false_iff_ne.2 (by omega)) w

end Go.Proofs.YtecjegjnnahddaaGreat

/-
  Words: Pack and Tagged of the document.
-/
namespace Go.Proofs.YtecjegjnnahddaaGreat
open Go.RowKit
set_option linter.unusedVariables false
set_option linter.unusedSimpArgs false
set_option maxRecDepth 20000
set_option maxHeartbeats 400000 in
theorem handle_ref (i g : Int) (h0 : 0 ≤ g) (h1 : g < 18446744073709551616) (w : World) :
    Calls Tryz.prog 72 #[.int .i64 i, .int .u64 g] w fun e w' => e = .returned (.int .u64 (hd i g)) ∧ w' = w := by
  go_enter Tryz.func72, Tryz.ntmps72
  go_wp2
  go_ret
  exact ⟨ret_int (ref_eq i g), rfl⟩

set_option maxHeartbeats 400000 in
theorem tagged_ref (i g : Int) (h0 : 0 ≤ g) (h1 : g < 18446744073709551616) (w : World) :
    Calls Tryz.prog 31 #[.int .i64 i, .int .u64 g] w fun e w' => e = .returned (.int .u64 (hd i g)) ∧ w' = w := by
  go_enter Tryz.func31, Tryz.ntmps31
  go_wp2_with (go_at_call 72; refine (handle_ref _ _ h0 h1 _).mono ?_; rintro e w' ⟨rfl, rfl⟩)
  go_ret
  exact ⟨rfl, rfl⟩

set_option maxHeartbeats 400000 in
theorem bit_ref (b : Bool) (v : Int) (w : World) :
    Calls Tryz.prog 32 #[.bool b, .int .u64 v] w fun e w' => e = .returned (.int .u64 (bit b v)) ∧ w' = w := by
  cases b
  · go_enter Tryz.func32, Tryz.ntmps32
    go_wp2
    go_ret
    exact ⟨rfl, rfl⟩
  · go_enter Tryz.func32, Tryz.ntmps32
    go_wp2
    go_ret
    exact ⟨rfl, rfl⟩

set_option maxHeartbeats 400000 in
theorem pack_ref_ok_true0 (used final taken : Bool) (age gen link next : Int) (s : Value) (ha0 : 0 ≤ age) (ha1 : age ≤ 255) (hg0 : 0 ≤ gen) (hg1 : gen ≤ 4294967295) (w : World) :
    Calls Tryz.prog 18 #[.agg #[.bool used, .bool true, .bool final, .bool taken, .int .i64 age, .int .u64 gen, .int .u64 link, .int .u64 next, s], .int .i64 0] w fun e w' =>
      e = .returned (.tuple #[.int .u64 (packW used false final taken age gen), .int .i64 0]) ∧ Below w.heap.size w w' := by
  go_enter Tryz.func18, Tryz.ntmps18
  go_wp2_with fail
  go_quiet ((go_at_call 32; exact Calls.quiet_of_same (bit_ref _ _ _)))
  go_wp2
  go_ret2
  exact ⟨ret_two (pack_eq_ref used false final taken age gen ha0 ha1 hg0 hg1) rfl, below_box _ _ _⟩

set_option maxHeartbeats 400000 in
theorem pack_ref_ok_true1 (used final taken : Bool) (age gen link next : Int) (s : Value) (ha0 : 0 ≤ age) (ha1 : age ≤ 255) (hg0 : 0 ≤ gen) (hg1 : gen ≤ 4294967295) (w : World) :
    Calls Tryz.prog 18 #[.agg #[.bool used, .bool true, .bool final, .bool taken, .int .i64 age, .int .u64 gen, .int .u64 link, .int .u64 next, s], .int .i64 1] w fun e w' =>
      e = .returned (.tuple #[.int .u64 (packW used true final taken age gen), .int .i64 0]) ∧ Below w.heap.size w w' := by
  go_enter Tryz.func18, Tryz.ntmps18
  go_wp2_with fail
  go_quiet ((go_at_call 32; exact Calls.quiet_of_same (bit_ref _ _ _)))
  go_wp2
  go_ret2
  exact ⟨ret_two (pack_eq_ref used true final taken age gen ha0 ha1 hg0 hg1) rfl, below_box _ _ _⟩

set_option maxHeartbeats 400000 in
theorem pack_ref_ok_false0 (used final taken : Bool) (age gen link next : Int) (s : Value) (ha0 : 0 ≤ age) (ha1 : age ≤ 255) (hg0 : 0 ≤ gen) (hg1 : gen ≤ 4294967295) (w : World) :
    Calls Tryz.prog 18 #[.agg #[.bool used, .bool false, .bool final, .bool taken, .int .i64 age, .int .u64 gen, .int .u64 link, .int .u64 next, s], .int .i64 0] w fun e w' =>
      e = .returned (.tuple #[.int .u64 (packW used true final taken age gen), .int .i64 0]) ∧ Below w.heap.size w w' := by
  go_enter Tryz.func18, Tryz.ntmps18
  go_wp2_with fail
  go_quiet ((go_at_call 32; exact Calls.quiet_of_same (bit_ref _ _ _)))
  go_wp2
  go_ret2
  exact ⟨ret_two (pack_eq_ref used true final taken age gen ha0 ha1 hg0 hg1) rfl, below_box _ _ _⟩

set_option maxHeartbeats 400000 in
theorem pack_ref_ok_false1 (used final taken : Bool) (age gen link next : Int) (s : Value) (ha0 : 0 ≤ age) (ha1 : age ≤ 255) (hg0 : 0 ≤ gen) (hg1 : gen ≤ 4294967295) (w : World) :
    Calls Tryz.prog 18 #[.agg #[.bool used, .bool false, .bool final, .bool taken, .int .i64 age, .int .u64 gen, .int .u64 link, .int .u64 next, s], .int .i64 1] w fun e w' =>
      e = .returned (.tuple #[.int .u64 (packW used false final taken age gen), .int .i64 0]) ∧ Below w.heap.size w w' := by
  go_enter Tryz.func18, Tryz.ntmps18
  go_wp2_with fail
  go_quiet ((go_at_call 32; exact Calls.quiet_of_same (bit_ref _ _ _)))
  go_wp2
  go_ret2
  exact ⟨ret_two (pack_eq_ref used false final taken age gen ha0 ha1 hg0 hg1) rfl, below_box _ _ _⟩

set_option maxHeartbeats 400000 in
theorem pack_ref_colour (used live final taken : Bool) (age gen link next : Int) (s : Value) (c : Int) (hb0 : (c != 0) = true) (hb1 : (c != 1) = true) (hn0 : ¬ c = 0) (hn1 : ¬ c = 1) (w : World) :
    Calls Tryz.prog 18 #[.agg #[.bool used, .bool live, .bool final, .bool taken, .int .i64 age, .int .u64 gen, .int .u64 link, .int .u64 next, s], .int .i64 c] w fun e w' =>
      e = .returned (.tuple #[.int .u64 0, .int .i64 10]) ∧ Below w.heap.size w w' := by
  go_enter Tryz.func18, Tryz.ntmps18
  go_wp2
  go_ret2
  exact ⟨rfl, below_box _ _ 0⟩

set_option maxHeartbeats 400000 in
theorem pack_ref_neg0 (used live final taken : Bool) (age gen link next : Int) (s : Value) (ha : age < 0) (w : World) :
    Calls Tryz.prog 18 #[.agg #[.bool used, .bool live, .bool final, .bool taken, .int .i64 age, .int .u64 gen, .int .u64 link, .int .u64 next, s], .int .i64 0] w fun e w' =>
      e = .returned (.tuple #[.int .u64 0, .int .i64 10]) ∧ Below w.heap.size w w' := by
  go_enter Tryz.func18, Tryz.ntmps18
  go_wp2
  go_ret2
  exact ⟨rfl, below_box _ _ 0⟩

set_option maxHeartbeats 400000 in
theorem pack_ref_old0 (used live final taken : Bool) (age gen link next : Int) (s : Value) (ha0 : 0 ≤ age) (ha : 255 < age) (w : World) :
    Calls Tryz.prog 18 #[.agg #[.bool used, .bool live, .bool final, .bool taken, .int .i64 age, .int .u64 gen, .int .u64 link, .int .u64 next, s], .int .i64 0] w fun e w' =>
      e = .returned (.tuple #[.int .u64 0, .int .i64 10]) ∧ Below w.heap.size w w' := by
  go_enter Tryz.func18, Tryz.ntmps18
  go_wp2
  go_ret2
  exact ⟨rfl, below_box _ _ 0⟩

set_option maxHeartbeats 400000 in
theorem pack_ref_gen0 (used live final taken : Bool) (age gen link next : Int) (s : Value) (ha0 : 0 ≤ age) (ha : age ≤ 255) (hg : 4294967295 < gen) (w : World) :
    Calls Tryz.prog 18 #[.agg #[.bool used, .bool live, .bool final, .bool taken, .int .i64 age, .int .u64 gen, .int .u64 link, .int .u64 next, s], .int .i64 0] w fun e w' =>
      e = .returned (.tuple #[.int .u64 0, .int .i64 10]) ∧ Below w.heap.size w w' := by
  go_enter Tryz.func18, Tryz.ntmps18
  go_wp2
  go_ret2
  exact ⟨rfl, below_box _ _ 0⟩

set_option maxHeartbeats 400000 in
theorem pack_ref_neg1 (used live final taken : Bool) (age gen link next : Int) (s : Value) (ha : age < 0) (w : World) :
    Calls Tryz.prog 18 #[.agg #[.bool used, .bool live, .bool final, .bool taken, .int .i64 age, .int .u64 gen, .int .u64 link, .int .u64 next, s], .int .i64 1] w fun e w' =>
      e = .returned (.tuple #[.int .u64 0, .int .i64 10]) ∧ Below w.heap.size w w' := by
  go_enter Tryz.func18, Tryz.ntmps18
  go_wp2
  go_ret2
  exact ⟨rfl, below_box _ _ 0⟩

set_option maxHeartbeats 400000 in
theorem pack_ref_old1 (used live final taken : Bool) (age gen link next : Int) (s : Value) (ha0 : 0 ≤ age) (ha : 255 < age) (w : World) :
    Calls Tryz.prog 18 #[.agg #[.bool used, .bool live, .bool final, .bool taken, .int .i64 age, .int .u64 gen, .int .u64 link, .int .u64 next, s], .int .i64 1] w fun e w' =>
      e = .returned (.tuple #[.int .u64 0, .int .i64 10]) ∧ Below w.heap.size w w' := by
  go_enter Tryz.func18, Tryz.ntmps18
  go_wp2
  go_ret2
  exact ⟨rfl, below_box _ _ 0⟩

set_option maxHeartbeats 400000 in
theorem pack_ref_gen1 (used live final taken : Bool) (age gen link next : Int) (s : Value) (ha0 : 0 ≤ age) (ha : age ≤ 255) (hg : 4294967295 < gen) (w : World) :
    Calls Tryz.prog 18 #[.agg #[.bool used, .bool live, .bool final, .bool taken, .int .i64 age, .int .u64 gen, .int .u64 link, .int .u64 next, s], .int .i64 1] w fun e w' =>
      e = .returned (.tuple #[.int .u64 0, .int .i64 10]) ∧ Below w.heap.size w w' := by
  go_enter Tryz.func18, Tryz.ntmps18
  go_wp2
  go_ret2
  exact ⟨rfl, below_box _ _ 0⟩

theorem pack_ref (used live final taken : Bool) (age gen link next : Int) (s : Value) (c : Int) (hg0 : 0 ≤ gen) (w : World) :
    Calls Tryz.prog 18 #[.agg #[.bool used, .bool live, .bool final, .bool taken, .int .i64 age, .int .u64 gen, .int .u64 link, .int .u64 next, s], .int .i64 c] w fun e w' =>
      e = .returned (.tuple #[.int .u64 (packV used live final taken age gen c), .int .i64 (packE age gen c)]) ∧ Below w.heap.size w w' := by
  by_cases hc : c = 0 ∨ c = 1
  · by_cases h1 : age < 0
    · have hb : packB age gen c = false := by unfold packB; simp; omega
      unfold packV packE
      rw [hb]
      rcases hc with rfl | rfl
      · exact pack_ref_neg0 used live final taken age gen link next s h1 w
      · exact pack_ref_neg1 used live final taken age gen link next s h1 w
    · by_cases h2 : 255 < age
      · have hb : packB age gen c = false := by unfold packB; simp; omega
        unfold packV packE
        rw [hb]
        rcases hc with rfl | rfl
        · exact pack_ref_old0 used live final taken age gen link next s (by omega) h2 w
        · exact pack_ref_old1 used live final taken age gen link next s (by omega) h2 w
      · by_cases h3 : 4294967295 < gen
        · have hb : packB age gen c = false := by unfold packB; simp; omega
          unfold packV packE
          rw [hb]
          rcases hc with rfl | rfl
          · exact pack_ref_gen0 used live final taken age gen link next s (by omega) (by omega) h3 w
          · exact pack_ref_gen1 used live final taken age gen link next s (by omega) (by omega) h3 w
        · have hb : packB age gen c = true := by unfold packB; simp; omega
          unfold packV packE
          rw [hb]
          rcases hc with rfl | rfl <;> cases live
          · exact pack_ref_ok_false0 used final taken age gen link next s (by omega) (by omega) hg0 (by omega) w
          · exact pack_ref_ok_true0 used final taken age gen link next s (by omega) (by omega) hg0 (by omega) w
          · exact pack_ref_ok_false1 used final taken age gen link next s (by omega) (by omega) hg0 (by omega) w
          · exact pack_ref_ok_true1 used final taken age gen link next s (by omega) (by omega) hg0 (by omega) w
  · have hb : packB age gen c = false := by unfold packB; simp; omega
    unfold packV packE
    rw [hb]
    exact pack_ref_colour used live final taken age gen link next s c (bne_iff_ne.2 (by omega)) (bne_iff_ne.2 (by omega)) (by omega) (by omega) w


end Go.Proofs.YtecjegjnnahddaaGreat

/-
  View, pure: the words that are laid for a view, and what is seen in them
-/
namespace Go.Proofs.YtecjegjnnahddaaGreat
open Go.RowKit
set_option linter.unusedVariables false
set_option linter.unusedSimpArgs false
set_option linter.unnecessarySimpa false
set_option maxRecDepth 20000
namespace Vw
open Shape

def mo (c : Cv) : Int := bits .or .u64 (momV 0 c.co c.ro) (IntKind.u64.wrap c.ph)
def hdV (l : List Int) : Int := hd (l.headD 0) 0
/-- The word q of an object's. -/
def obW (x : Sh) (c : Cv) (j q : Nat) : Int :=
  if q = 0 then packV (c.ob j).us (c.ob j).li (c.ob j).fi (c.ob j).ta (c.ob j).ag (c.ob j).ge c.co else if q = 1 then (c.ob j).lk else if q = 2 then (c.ob j).nx else if q - 3 < (c.ob j).ns then (c.ob j).sl (q - 3) else 0
/-- The words that are laid. -/
def lwF (x : Sh) (c : Cv) (i : Nat) : Int :=
  if i = 0 then mo c else if i = 1 then hdV c.fr else if i = 2 then hdV c.gr else if i = 3 then hdV c.qu
  else if i < 8 then c.cn (i - 4)
  else if i < bR x then (if i - 8 < c.na then c.ac (i - 8) else 0)
  else if i < bK x then (if (i - bR x) % x.r < c.rn ((i - bR x) / x.r) then c.rt ((i - bR x) / x.r) ((i - bR x) % x.r) else 0)
  else if i < bO x then (if i - bK x < c.nw then c.wk (i - bK x) else 0)
  else obW x c ((i - bO x) / ow x) ((i - bO x) % ow x)

theorem lw_ack {x : Sh} {c : Cv} {i : Nat} (h : i < x.h) : lwF x c (8 + i) = if i < c.na then c.ac i else 0 := by
  have := lay_out x
  unfold lwF
  rw [if_neg (by omega), if_neg (by omega), if_neg (by omega), if_neg (by omega), if_neg (by omega), if_pos (by omega)]
  rw [show 8 + i - 8 = i by omega]
theorem lw_cn {x : Sh} {c : Cv} {i : Nat} (h : i < 4) : lwF x c (4 + i) = c.cn i := by
  unfold lwF
  rw [if_neg (by omega), if_neg (by omega), if_neg (by omega), if_neg (by omega), if_pos (by omega)]
  rw [show 4 + i - 4 = i by omega]
theorem lw_root {x : Sh} {c : Cv} {j q : Nat} (hj : j < x.h) (hq : q < x.r) : lwF x c (bR x + j * x.r + q) = if q < c.rn j then c.rt j q else 0 := by
  have hl := lay_out x
  have h1 : (j + 1) * x.r ≤ x.h * x.r := Nat.mul_le_mul_right _ hj
  rw [Nat.succ_mul] at h1
  unfold lwF
  rw [if_neg (by omega), if_neg (by omega), if_neg (by omega), if_neg (by omega), if_neg (by omega), if_neg (by omega), if_pos (by omega)]
  have e : bR x + j * x.r + q - bR x = q + x.r * j := by rw [Nat.mul_comm x.r j]; omega
  have e1 : (q + x.r * j) % x.r = q := by rw [Nat.add_mul_mod_self_left]; exact Nat.mod_eq_of_lt hq
  have e2 : (q + x.r * j) / x.r = j := by rw [Nat.add_mul_div_left _ _ (by omega), Nat.div_eq_of_lt hq]; omega
  rw [e, e1, e2]
theorem lw_weak {x : Sh} {c : Cv} {i : Nat} (h : i < x.k) : lwF x c (bK x + i) = if i < c.nw then c.wk i else 0 := by
  have := lay_out x
  unfold lwF
  rw [if_neg (by omega), if_neg (by omega), if_neg (by omega), if_neg (by omega), if_neg (by omega), if_neg (by omega), if_neg (by omega), if_pos (by omega)]
  rw [show bK x + i - bK x = i by omega]
theorem lw_obj {x : Sh} {c : Cv} {j q : Nat} (hq : q < ow x) : lwF x c (pO x j + q) = obW x c j q := by
  have hl := lay_out x
  unfold lwF pO
  rw [if_neg (by omega), if_neg (by omega), if_neg (by omega), if_neg (by omega), if_neg (by omega), if_neg (by omega), if_neg (by omega), if_neg (by omega)]
  have e : bO x + j * ow x + q - bO x = q + ow x * j := by rw [Nat.mul_comm (ow x) j]; omega
  have e1 : (q + ow x * j) % ow x = q := by rw [Nat.add_mul_mod_self_left]; exact Nat.mod_eq_of_lt hq
  have e2 : (q + ow x * j) / ow x = j := by rw [Nat.add_mul_div_left _ _ (by omega), Nat.div_eq_of_lt hq]; omega
  rw [e, e1, e2]

/-- Numbers of a view that words can be. -/
structure Bnd (c : Cv) : Prop where
  ro : 0 ≤ c.ro
  cn : ∀ i, i < 4 → 0 ≤ c.cn i ∧ c.cn i < 18446744073709551616
  ac : ∀ i, i < c.na → 0 ≤ c.ac i ∧ c.ac i < 18446744073709551616
  rt : ∀ j, j < c.nr → ∀ i, i < c.rn j → 0 ≤ c.rt j i ∧ c.rt j i < 18446744073709551616
  wk : ∀ i, i < c.nw → 0 ≤ c.wk i ∧ c.wk i < 18446744073709551616
  ob : ∀ j, j < c.no → 0 ≤ (c.ob j).ge ∧ (0 ≤ (c.ob j).lk ∧ (c.ob j).lk < 18446744073709551616) ∧ (0 ≤ (c.ob j).nx ∧ (c.ob j).nx < 18446744073709551616) ∧ ∀ i, i < (c.ob j).ns → 0 ≤ (c.ob j).sl i ∧ (c.ob j).sl i < 18446744073709551616
theorem momV_bnd (p c r : Int) (hr : 0 ≤ r) : 0 ≤ momV p c r ∧ momV p c r < 18446744073709551616 := by
  unfold momV momB
  split
  · rename_i h
    simp at h
    obtain ⟨⟨⟨h1, h2⟩, h3⟩, h4⟩ := h
    rcases h3 with rfl | rfl <;> omega
  · omega
theorem or_bnd (a b : Int) (ha0 : 0 ≤ a) (ha1 : a < 18446744073709551616) (hb0 : 0 ≤ b) (hb1 : b < 18446744073709551616) : 0 ≤ bits .or .u64 a b ∧ bits .or .u64 a b < 18446744073709551616 := by
  rw [u64_or a b ha0 ha1 hb0 hb1]
  have h1 : a.toNat ||| b.toNat < 2 ^ 64 := Nat.or_lt_two_pow (by omega) (by omega)
  omega
theorem mo_bnd {c : Cv} (h : Bnd c) : 0 ≤ mo c ∧ mo c < 18446744073709551616 := by
  have h1 := momV_bnd 0 c.co c.ro h.ro
  exact or_bnd _ _ h1.1 h1.2 (by rw [wrapU]; omega) (by rw [wrapU]; omega)
theorem packV_bnd (u l f t : Bool) (age gen c : Int) (hg : 0 ≤ gen) : 0 ≤ packV u l f t age gen c ∧ packV u l f t age gen c < 18446744073709551616 := by
  unfold packV packB
  split
  · rename_i h
    simp at h
    obtain ⟨⟨⟨h1, h2⟩, h3⟩, h4⟩ := h
    have hb := bits_lt u (ownB l c) f t
    unfold packW
    omega
  · omega
theorem lw_bnd {x : Sh} (H : x.Ok) {c : Cv} (h : Bnd c) (hr : c.nr = x.h) (ho : c.no = x.o) : ∀ i, i < size x → 0 ≤ lwF x c i ∧ lwF x c i < 18446744073709551616 := by
  intro i hi
  have hl := lay_out x
  have hh := fun l : List Int => And.intro (hd_lo (l.headD 0) 0) (hd_hi (l.headD 0) 0)
  by_cases h8 : i < 8
  · have e : i = 0 ∨ i = 1 ∨ i = 2 ∨ i = 3 ∨ ∃ q, q < 4 ∧ i = 4 + q := by
      by_cases i < 4
      · omega
      · exact .inr (.inr (.inr (.inr ⟨i - 4, by omega, by omega⟩)))
    rcases e with rfl | rfl | rfl | rfl | ⟨q, hq, rfl⟩
    · exact mo_bnd h
    · exact hh _
    · exact hh _
    · exact hh _
    · rw [lw_cn hq]; exact h.cn q hq
  · by_cases h1 : i < bR x
    · obtain ⟨q, rfl⟩ : ∃ q, i = 8 + q := ⟨i - 8, by omega⟩
      rw [lw_ack (by omega)]
      split
      · exact h.ac q (by assumption)
      · omega
    · by_cases h2 : i < bK x
      · have hr1 : 0 < x.r := H.r1
        obtain ⟨m, rfl⟩ : ∃ m, i = bR x + m := ⟨i - bR x, by omega⟩
        have e1 : m / x.r < x.h := Nat.div_lt_of_lt_mul (by rw [Nat.mul_comm]; omega)
        have e2 := Nat.mod_lt m hr1
        have e3 := Nat.div_add_mod m x.r
        rw [show bR x + m = bR x + m / x.r * x.r + m % x.r by rw [Nat.mul_comm (m / x.r)]; omega, lw_root e1 e2]
        split
        · exact h.rt _ (by omega) _ (by assumption)
        · omega
      · by_cases h3 : i < bO x
        · obtain ⟨q, rfl⟩ : ∃ q, i = bK x + q := ⟨i - bK x, by omega⟩
          rw [lw_weak (by omega)]
          split
          · exact h.wk q (by assumption)
          · omega
        · obtain ⟨m, rfl⟩ : ∃ m, i = bO x + m := ⟨i - bO x, by omega⟩
          have hw : 0 < ow x := by omega
          have e1 : m / ow x < x.o := Nat.div_lt_of_lt_mul (by rw [Nat.mul_comm]; omega)
          have e2 := Nat.mod_lt m hw
          have e3 := Nat.div_add_mod m (ow x)
          have hob := h.ob (m / ow x) (by omega)
          rw [show bO x + m = pO x (m / ow x) + m % ow x by unfold pO; rw [Nat.mul_comm (m / ow x)]; omega, lw_obj e2]
          unfold obW
          split
          · exact packV_bnd _ _ _ _ _ _ _ hob.1
          · split
            · exact hob.2.1
            · split
              · exact hob.2.2.1
              · split
                · exact hob.2.2.2 _ (by assumption)
                · omega
end Vw
end Go.Proofs.YtecjegjnnahddaaGreat
