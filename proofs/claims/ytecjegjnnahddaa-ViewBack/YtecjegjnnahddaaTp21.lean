/-
  Lemmas: VwEq, VwEr.
-/
import Derived.Test.YtecjegjnnahddaaTp13
/-
  View: the package's comparison of lists
-/
namespace Go.Proofs.Ytecjegjnnahddaa
open Go.RowKit
set_option linter.unusedVariables false
set_option linter.unusedSimpArgs false
set_option linter.unnecessarySimpa false
set_option maxRecDepth 20000
namespace Vw
open Shape

theorem drewN_two (w : World) (a b : Nat) : (w.drewN a).drewN b = w.drewN (a + b) := by simp [World.drewN, Nat.add_assoc]
set_option maxHeartbeats 2000000 in
theorem equalU {w : World} {B B' : Nat} {ao ao' : Option Addr} {n n' cap cap' : Nat} {f f' : Nat → Int} (h : Sees w B ao n f) (h' : Sees w B' ao' n' f') (hn : n ≤ 9223372036854775807) (hn' : n' ≤ 9223372036854775807) :
    Calls Try.prog 70 #[.slice ao n cap, .slice ao' n' cap'] w fun e w' => Tells e (n = n' ∧ ∀ i, i < n → f i = f' i) ∧ ∃ m, w' = w.drewN m := by
  have H := hide h
  have H' := hide h'
  clear h h'
  by_cases hnn : n = n'
  · subst hnn
    go_enter Try.func70, Try.ntmps70
    go_wp2_with fail
    go_loopw [13] (fun i wr => ∃ k m : Nat, k ≤ n ∧ i = .int .i64 k ∧ Hid (∀ j, j < k → f j = f' j) ∧ wr = w.drewN m) (fun i _ => n - (intOf i).toNat)
    case atStart => exact ⟨0, 0, Nat.zero_le _, rfl, fun j hj => absurd hj (by omega), rfl⟩
    case round =>
      obtain ⟨k, m, hk, rfl, HK, rfl⟩ := hrel
      by_cases hlt : k < n
      · obtain ⟨b, off, rfl, hbl, hcc⟩ := H.out k hlt
        obtain ⟨b', off', rfl, hbl', hcc'⟩ := H'.out k hlt
        have hkn : (k : Int) < (n : Int) := by omega
        by_cases he : f k = f' k
        · have he2 : (f k != f' k) = false := by simp [he]
          have HE := hide he
          clear he
          go_wp2
          go_quiet (fail)
          go_wp2
          go_roundw
          case rel => exact ⟨k + 1, _, by omega, by go_num, fun j hj => by (by_cases e : j < k); exact HK.out j e; (cases (show j = k by omega)); exact HE.out, rfl⟩
          case measure => simp [intOf]; omega
        · have he2 : (f k != f' k) = true := by simp [he]
          have HE := hide he
          clear he
          go_wp2
          go_quiet (fail)
          go_wp2
          go_ret
          exact ⟨Tells.no (fun h => HE.out (by first | exact h.2 k hlt | exact h k hlt)), _, drewN_two _ _ _⟩
      · have hkn : ¬ (k : Int) < (n : Int) := by omega
        go_wp2
        go_ret
        exact ⟨Tells.yes (by first | exact fun i hi => HK.out i (by omega) | exact ⟨rfl, fun i hi => HK.out i (by omega)⟩), _, rfl⟩
  · have hnb : ((n : Int) != (n' : Int)) = true := by simp; omega
    have HH := hide hnn
    clear hnn
    go_enter Try.func70, Try.ntmps70
    go_wp2_with fail
    go_ret
    exact ⟨Tells.no (fun h => HH.out h.1), 0, rfl⟩
set_option maxHeartbeats 2000000 in
theorem equalI {w : World} {ao ao' : Option Addr} {l l' : List Int} {cap cap' : Nat} (h : SeesN w ao l) (h' : SeesN w ao' l') (hn : l.length ≤ 9223372036854775807) (hn' : l'.length ≤ 9223372036854775807) :
    Calls Try.prog 74 #[.slice ao l.length cap, .slice ao' l'.length cap'] w fun e w' => Tells e (l = l') ∧ ∃ m, w' = w.drewN m := by
  have H := hide h
  have H' := hide h'
  obtain ⟨n, hln⟩ : ∃ n, l.length = n := ⟨_, rfl⟩
  obtain ⟨n', hln'⟩ : ∃ n, l'.length = n := ⟨_, rfl⟩
  rw [hln] at hn ⊢
  rw [hln'] at hn' ⊢
  have HL := hide hln
  have HL' := hide hln'
  clear h h' hln hln'
  by_cases hnn : n = n'
  · subst hnn
    go_enter Try.func74, Try.ntmps74
    go_wp2_with fail
    go_loopw [13] (fun i wr => ∃ k m : Nat, k ≤ n ∧ i = .int .i64 k ∧ Hid (∀ j, j < k → l[j]? = l'[j]?) ∧ wr = w.drewN m) (fun i _ => n - (intOf i).toNat)
    case atStart => exact ⟨0, 0, Nat.zero_le _, rfl, fun j hj => absurd hj (by omega), rfl⟩
    case round =>
      obtain ⟨k, m, hk, rfl, HK, rfl⟩ := hrel
      by_cases hlt : k < n
      · obtain ⟨x, hx⟩ : ∃ x, l[k]? = some x := ⟨l[k]'(by have := HL.out; omega), List.getElem?_eq_getElem _⟩
        obtain ⟨y, hy⟩ : ∃ x, l'[k]? = some x := ⟨l'[k]'(by have := HL'.out; omega), List.getElem?_eq_getElem _⟩
        obtain ⟨b, off, rfl, hbl, hcc⟩ := H.out k x hx
        obtain ⟨b', off', rfl, hbl', hcc'⟩ := H'.out k y hy
        have HX := hide hx
        have HY := hide hy
        clear hx hy
        have hkn : (k : Int) < (n : Int) := by omega
        by_cases he : x = y
        · have he2 : (x != y) = false := by simp [he]
          have HE := hide he
          clear he
          go_wp2
          go_quiet (fail)
          go_wp2
          go_roundw
          case rel => exact ⟨k + 1, _, by omega, by go_num, fun j hj => by (by_cases e : j < k); exact HK.out j e; (cases (show j = k by omega)); rw [HX.out, HY.out, HE.out], rfl⟩
          case measure => simp [intOf]; omega
        · have he2 : (x != y) = true := by simp [he]
          have HE := hide he
          clear he
          go_wp2
          go_quiet (fail)
          go_wp2
          go_ret
          exact ⟨Tells.no (fun h => HE.out (by have h1 := HX.out; have h2 := HY.out; rw [h] at h1; rw [h1] at h2; injection h2)), _, drewN_two _ _ _⟩
      · have hkn : ¬ (k : Int) < (n : Int) := by omega
        go_wp2
        go_ret
        refine ⟨Tells.yes (List.ext_getElem? (fun i => ?_)), _, rfl⟩
        by_cases hi : i < n
        · exact HK.out i (by omega)
        · rw [List.getElem?_eq_none (by have := HL.out; omega), List.getElem?_eq_none (by have := HL'.out; omega)]
  · have hnb : ((n : Int) != (n' : Int)) = true := by simp; omega
    have HH := hide hnn
    clear hnn
    go_enter Try.func74, Try.ntmps74
    go_wp2_with fail
    go_ret
    exact ⟨Tells.no (fun h => HH.out (by have h1 := HL.out; have h2 := HL'.out; rw [← h1, ← h2, h])), 0, rfl⟩
end Vw
end Go.Proofs.Ytecjegjnnahddaa

/-
  View: the package's comparison of lists of lists
-/
namespace Go.Proofs.Ytecjegjnnahddaa
open Go.RowKit
set_option linter.unusedVariables false
set_option linter.unusedSimpArgs false
set_option linter.unnecessarySimpa false
set_option maxRecDepth 20000
namespace Vw
open Shape

theorem Tells.is {e : Ending} {p : Prop} (h : Tells e p) (hp : p) : e = .returned (.bool true) := by
  rcases h.get with ⟨_, h2⟩ | ⟨h1, _⟩
  · exact h2
  · exact absurd hp h1
theorem Tells.isnt {e : Ending} {p : Prop} (h : Tells e p) (hp : ¬ p) : e = .returned (.bool false) := by
  rcases h.get with ⟨h1, _⟩ | ⟨_, h2⟩
  · exact absurd h1 hp
  · exact h2

/-- What a view holds is short enough for its lengths to be numbers. -/
structure Len (c : Cv) : Prop where
  na : c.na ≤ 9223372036854775807
  nr : c.nr ≤ 9223372036854775807
  rn : ∀ j, j < c.nr → c.rn j ≤ 9223372036854775807
  nw : c.nw ≤ 9223372036854775807
  no : c.no ≤ 9223372036854775807
  ns : ∀ j, j < c.no → (c.ob j).ns ≤ 9223372036854775807
  fr : c.fr.length ≤ 9223372036854775807
  gr : c.gr.length ≤ 9223372036854775807
  qu : c.qu.length ≤ 9223372036854775807

set_option maxHeartbeats 4000000 in
theorem equalRoots {w : World} {c d : Cv} {a b : Av} (h : Shows w c a) (h' : Shows w d b) (hc : Len c) (hd : Len d) :
    Calls Try.prog 71 #[.slice a.ra c.nr a.cr, .slice b.ra d.nr b.cr, .func (.func 70) #[] #[]] w fun e w' => Tells e (c.nr = d.nr ∧ ∀ j, j < c.nr → c.rn j = d.rn j ∧ ∀ i, i < c.rn j → c.rt j i = d.rt j i) ∧ Below w.heap.size w w' := by
  have H := hide h
  have H' := hide h'
  have HC := hide hc
  have HD := hide hd
  have hn1 := hc.nr
  have hn2 := hd.nr
  clear h h' hc hd
  by_cases hnn : c.nr = d.nr
  · have hnb : ((c.nr : Int) != (d.nr : Int)) = false := by simp; omega
    have HN := hide hnn
    clear hnn
    obtain ⟨ra, hra⟩ : ∃ x, a.ra = x := ⟨_, rfl⟩
    obtain ⟨rb, hrb⟩ : ∃ x, b.ra = x := ⟨_, rfl⟩
    rw [hra, hrb]
    have HRA := hide hra
    have HRB := hide hrb
    clear hra hrb
    go_enter Try.func71, Try.ntmps71
    go_wp2_with fail
    go_loopw [17] (fun i wr => ∃ k m : Nat, k ≤ c.nr ∧ i = .int .i64 k ∧ Hid (∀ j, j < k → c.rn j = d.rn j ∧ ∀ i, i < c.rn j → c.rt j i = d.rt j i) ∧ wr = w.drewN m) (fun i _ => c.nr - (intOf i).toNat)
    case atStart => exact ⟨0, 0, Nat.zero_le _, rfl, fun j hj => absurd hj (by omega), rfl⟩
    case round =>
      obtain ⟨k, m, hk, rfl, HK, rfl⟩ := hrel
      by_cases hlt : k < c.nr
      · obtain ⟨b1, o1, ai, ci, e1, hb1, hc1, hs1⟩ := H.out.rt k hlt
        obtain ⟨b2, o2, aj, cj, e2, hb2, hc2, hs2⟩ := H'.out.rt k (by have := HN.out; omega)
        rw [HRA.out] at e1
        rw [HRB.out] at e2
        subst e1 e2
        have hkn : (k : Int) < (c.nr : Int) := by omega
        have hkn2 : (k : Int) < (d.nr : Int) := by have := HN.out; omega
        have EQ := hide (equalU (w := w.drewN m) (cap := ci) (cap' := cj) hs1 hs2 (HC.out.rn k hlt) (HD.out.rn k (by have := HN.out; omega)))
        have q1 : (w.drewN m).cell? ⟨b1, o1 + k, none⟩ = some (.slice ai (c.rn k) ci) := hc1
        have q2 : (w.drewN m).cell? ⟨b2, o2 + k, none⟩ = some (.slice aj (d.rn k) cj) := hc2
        clear hs1 hs2 hc1 hc2
        by_cases he : c.rn k = d.rn k ∧ ∀ i, i < c.rn k → c.rt k i = d.rt k i
        · have HE := hide he
          clear he
          go_wp2_with (go_at_call 70; refine EQ.out.mono ?_; rintro e w1 ⟨ht, m1, rfl⟩; obtain rfl := ht.is HE.out)
          go_roundw
          case rel => exact ⟨k + 1, _, by omega, by go_num, fun j hj => by (by_cases e : j < k); exact HK.out j e; (cases (show j = k by omega)); exact HE.out, by first | rfl | exact drewN_two _ _ _⟩
          case measure => simp [intOf]; omega
        · have HE := hide he
          clear he
          go_wp2_with (go_at_call 70; refine EQ.out.mono ?_; rintro e w1 ⟨ht, m1, rfl⟩; obtain rfl := ht.isnt HE.out)
          go_ret
          exact ⟨Tells.no (fun h => HE.out (h.2 k hlt)), by first | exact below_drewN (Below.refl _ _) _ | exact below_drewN (below_drewN (Below.refl _ _) _) _⟩
      · have hkn : ¬ (k : Int) < (c.nr : Int) := by omega
        go_wp2
        go_ret
        exact ⟨Tells.yes ⟨HN.out, fun i hi => HK.out i (by omega)⟩, below_drewN (Below.refl _ _) _⟩
  · have hnb : ((c.nr : Int) != (d.nr : Int)) = true := by simp; omega
    have HH := hide hnn
    clear hnn
    go_enter Try.func71, Try.ntmps71
    go_wp2_with fail
    go_ret
    exact ⟨Tells.no (fun h => HH.out h.1), Below.refl _ _⟩
end Vw
end Go.Proofs.Ytecjegjnnahddaa
