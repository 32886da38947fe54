/-
  Who is picked: the program's count, behind and Next, the document's Pick and After, each by its contract.
-/
import Derived.Test.YtdbiphibdaghkaaSpec
import Derived.Test.YtdbiphibdaghkaaView
namespace Go.Proofs.Ytdbiphibdaghkaa
open Go.RowKit
set_option linter.unusedVariables false
set_option linter.unusedSimpArgs false
set_option maxRecDepth 20000

/-- A slice at ao of n bools, readable below block B: place j is 'g j'. -/
def SeesB (w : World) (B : Nat) (ao : Option Addr) (n : Nat) (g : Nat → Bool) : Prop :=
  ∀ j, j < n → ∃ b off, ao = some ⟨b, off, none⟩ ∧ b < B ∧ w.cell? ⟨b, off + j, none⟩ = some (.bool (g j))
theorem SeesB.below {w w' : World} {B C : Nat} {ao : Option Addr} {n : Nat} {g : Nat → Bool} (h : SeesB w B ao n g) (hb : Below C w w') (hBC : B ≤ C) : SeesB w' B ao n g :=
  fun j hj => by obtain ⟨b, off, e, hl, hc⟩ := h j hj; exact ⟨b, off, e, hl, (hb.cell (p := ⟨b, off + j, none⟩) (by show b < C; omega)).trans hc⟩

theorem count_any {w : World} {B : Nat} {ao : Option Addr} {n cap : Nat} {g : Nat → Bool} (h : SeesB w B ao n g) (hn : n ≤ 9223372036854775807) :
    Calls Try.prog 74 #[.slice ao n cap] w fun e w' => e = .returned (.int .i64 (cnt g n)) ∧ w' = w := by
  have H := hide h
  clear h
  go_enter Try.func74, Try.ntmps74
  go_wp2_with fail
  go_loopw [3, 8] (fun c i wr => ∃ k : Nat, k ≤ n ∧ i = .int .i64 k ∧ c = .int .i64 (cnt g k) ∧ wr = w) (fun _ i _ => n - (intOf i).toNat)
  case atStart => exact ⟨0, Nat.zero_le _, rfl, rfl, rfl⟩
  case round =>
    obtain ⟨k, hk, rfl, rfl, rfl⟩ := hrel
    by_cases hlt : k < n
    · obtain ⟨b, off, rfl, hbl, hcc⟩ := H.out k hlt
      have hkn : (k : Int) < (n : Int) := by omega
      have hcl := cnt_le g k
      cases hg : g k with
      | true =>
        rw [hg] at hcc
        have hct := cnt_true hg
        go_wp2
        go_roundw
        case rel => exact ⟨k + 1, by omega, by go_num, by rw [hct]; go_num, by first | rfl | trivial⟩
        case measure => simp [intOf]; omega
      | false =>
        rw [hg] at hcc
        have hct := cnt_false hg
        go_wp2
        go_roundw
        case rel => exact ⟨k + 1, by omega, by go_num, by rw [hct], by first | rfl | trivial⟩
        case measure => simp [intOf]; omega
    · obtain rfl : k = n := by omega
      go_wp2
      go_ret
      exact ⟨rfl, rfl⟩

theorem tmod_nat (a n : Nat) : Int.tmod (a : Int) (n : Int) = ((a % n : Nat) : Int) := by
  rw [Int.tmod_eq_emod_of_nonneg (by omega)]; omega

theorem behind_any {w : World} {B : Nat} {ao : Option Addr} {n cap : Nat} {g : Nat → Bool} (h : SeesB w B ao n g) (hn : n ≤ 4611686018427387903) (hand : Int) (h1 : -1 ≤ hand) (h2 : hand < n) :
    Calls Try.prog 71 #[.slice ao n cap, .int .i64 hand] w fun e w' => e = .returned (.int .i64 (behindOf n g hand)) ∧ w' = w := by
  have H := hide h
  clear h
  obtain ⟨s, hs⟩ : ∃ s : Nat, hand + 1 = s := ⟨(hand + 1).toNat, by omega⟩
  have hst : (hand + 1).toNat = s := by omega
  go_enter Try.func71, Try.ntmps71
  go_wp2_with fail
  go_loopw [9] (fun i wr => ∃ k : Nat, k ≤ n ∧ i = .int .i64 k ∧ (∀ j, j < k → g ((s + j) % n) = false) ∧ wr = w) (fun i _ => n - (intOf i).toNat)
  case atStart => exact ⟨0, Nat.zero_le _, rfl, fun j hj => by omega, rfl⟩
  case round =>
    obtain ⟨k, hk, rfl, hno, rfl⟩ := hrel
    by_cases hlt : k < n
    · obtain ⟨r, hr⟩ : ∃ r, r = (s + k) % n := ⟨_, rfl⟩
      have hm : r < n := by rw [hr]; exact Nat.mod_lt _ (by omega)
      obtain ⟨b, off, rfl, hbl, hcc⟩ := H.out _ hm
      have hkn : (k : Int) < (n : Int) := by omega
      have hn0 : ¬ (n : Int) = 0 := by omega
      have ha1 : hand + 1 = (s : Int) := hs
      have hmod : ((s : Int) + k) % (n : Int) = (r : Int) := by rw [hr]; simp
      have hrn : (r : Int) < (n : Int) := by omega
      have HR := hide hr
      have HN := hide hno
      clear hr hno
      cases hg : g r with
      | true =>
        rw [hg] at hcc
        go_wp2_with fail
        go_ret
        exact ⟨by rw [behindOf_some hlt (by rw [hst, ← HR.out]; exact hg) (by rw [hst]; exact HN.out), hst, ← HR.out, ← hmod]; rfl, rfl⟩
      | false =>
        rw [hg] at hcc
        go_wp2_with fail
        go_roundw
        case rel => exact ⟨k + 1, by omega, by go_num, fun j hj => by rcases Nat.lt_succ_iff_lt_or_eq.1 hj with h | rfl; exact HN.out j h; rw [← HR.out]; exact hg, by first | rfl | trivial⟩
        case measure => simp [intOf]; omega
    · obtain rfl : k = n := by omega
      go_wp2
      go_ret
      exact ⟨by rw [behindOf_none (by rw [hst]; exact hno)]; rfl, rfl⟩

theorem tmod_emod (p : Int) (c : Nat) (hc : 0 < c) : (Int.tmod p c < 0 ∧ p % (c : Int) = Int.tmod p c + c) ∨ (¬ Int.tmod p c < 0 ∧ p % (c : Int) = Int.tmod p c) := by
  have h := Int.tmod_eq_emod (a := p) (b := c)
  have h1 := Int.emod_nonneg p (show (c : Int) ≠ 0 by omega)
  have h2 := Int.emod_lt_of_pos p (show 0 < (c : Int) by omega)
  have h3 : ((c : Int).natAbs : Int) = c := by omega
  by_cases hp : 0 ≤ p ∨ (c : Int) ∣ p
  · rw [if_pos hp] at h; right; omega
  · rw [if_neg hp] at h
    have : p % (c : Int) ≠ 0 := fun h0 => hp (.inr (Int.dvd_of_emod_eq_zero h0))
    omega

/-- Next. -/
theorem next_any {w : World} {B : Nat} {ao : Option Addr} {n cap : Nat} {g : Nat → Bool} (h : SeesB w B ao n g) (hn : n ≤ 4611686018427387903) (place : Int) :
    Calls Try.prog 70 #[.slice ao n cap, .int .i64 place] w fun e w' => e = .returned (.int .i64 (pickOf n g place)) ∧ w' = w := by
  have hcl := cnt_le g n
  by_cases h0 : cnt g n = 0
  · go_enter Try.func70, Try.ntmps70
    go_wp2_with (go_at_call 74; refine (count_any h (by omega)).mono ?_; rintro e w' ⟨rfl, hw⟩; obtain rfl := hw.symm; rw [h0])
    go_ret
    exact ⟨by rw [pickOf_none h0]; rfl, rfl⟩
  · obtain ⟨k, hk, hkl⟩ := emod_cnt place h0
    obtain ⟨i, hi⟩ := exists_pick g k n hkl
    rw [pickOf_some h0 hk hi]
    obtain ⟨p0, hp0⟩ := exists_pick g 0 n (by omega)
    have e0 := behindOf_first hp0
    have hp0l := hp0.lt
    obtain ⟨c, hc⟩ : ∃ c, c = cnt g n := ⟨_, rfl⟩
    have hc0 : ¬ (c : Int) = 0 := by omega
    have hkc : k < c := by omega
    have ht := tmod_emod place c (by omega)
    rw [hc, hk, ← hc] at ht
    have H := hide h
    have HI := hide hi
    have HP := hide hp0
    have HC := hide hc
    have hcn : c ≤ n := by omega
    clear h hi hp0 hk h0 hkl hcl hc
    obtain ⟨t, htt⟩ : ∃ t, t = Int.tmod place c := ⟨_, rfl⟩
    have key : Calls Try.prog 70 #[.slice ao n cap, .int .i64 place] w fun e w' => e = .returned (.int .i64 i) ∧ w' = w := by
      go_enter Try.func70, Try.ntmps70
      go_wp2_with (first
        | (go_at_call 74; refine (count_any H.out (by omega)).mono ?_; rintro e w' ⟨rfl, hw⟩; obtain rfl := hw.symm; rw [← HC.out])
        | (go_at_call 71; refine (behind_any H.out (by omega) (-1) (by omega) (by omega)).mono ?_; rintro e w' ⟨rfl, hw⟩; obtain rfl := hw.symm; rw [e0]))
      all_goals (first | rw [show place.tmod c + c = (k : Int) by omega] | rw [show place.tmod c = (k : Int) by omega])
      all_goals clear ht htt e0
      all_goals
        go_loopw [7, 23] (fun hd i wr => ∃ j q : Nat, j ≤ k ∧ i = .int .i64 j ∧ hd = .int .i64 q ∧ Hid (IsPick n g j q) ∧ wr = w) (fun _ i _ => k - (intOf i).toNat)
        case atStart => exact ⟨0, p0, Nat.zero_le _, rfl, rfl, HP, rfl⟩
        case round =>
          obtain ⟨j, q, hj, rfl, rfl, HQ, rfl⟩ := hrel
          by_cases hlt : j < k
          · obtain ⟨q', hq'⟩ := exists_pick g (j + 1) n (by have := HC.out; omega)
            have e1 := behindOf_next HQ.out hq'
            have hql := HQ.out.lt
            have hjk : (j : Int) < (k : Int) := by omega
            have HQ' := hide hq'
            clear hq'
            go_wp2_with (go_at_call 71; refine (behind_any H.out (by omega) q (by omega) (by omega)).mono ?_; rintro e w' ⟨rfl, hw⟩; obtain rfl := hw.symm; rw [e1])
            go_roundw
            case rel => exact ⟨j + 1, q', by omega, by go_num, rfl, HQ', by first | rfl | trivial⟩
            case measure => simp [intOf]; omega
          · obtain rfl : j = k := by omega
            have eq := HQ.out.one HI.out
            go_wp2
            go_ret
            exact ⟨by rw [← eq]; rfl, rfl⟩
    exact key

/-- The document's Pick. -/
theorem rpick_any {w : World} {B : Nat} {ao : Option Addr} {n cap : Nat} {g : Nat → Bool} (h : SeesB w B ao n g) (hn : n ≤ 4611686018427387903) (place : Int) :
    Calls Try.prog 64 #[.slice ao n cap, .int .i64 place] w fun e w' => e = .returned (.int .i64 (pickOf n g place)) ∧ w' = w := by
  have H := hide h
  clear h
  obtain ⟨ans, hans⟩ : ∃ a, a = pickOf n g place := ⟨_, rfl⟩
  rw [← hans]
  have HA := hide hans
  clear hans
  go_enter Try.func64, Try.ntmps64
  go_wp2_with fail
  go_loopw [5, 6] (fun c i wr => ∃ k : Nat, k ≤ n ∧ i = .int .i64 k ∧ c = .int .i64 (cnt g k) ∧ wr = w) (fun _ i _ => n - (intOf i).toNat)
  case atStart => exact ⟨0, Nat.zero_le _, rfl, rfl, rfl⟩
  case round =>
    obtain ⟨k, hk, rfl, rfl, rfl⟩ := hrel
    by_cases hlt : k < n
    · obtain ⟨b, off, rfl, hbl, hcc⟩ := H.out k hlt
      have hkn : (k : Int) < (n : Int) := by omega
      have hcl := cnt_le g k
      cases hg : g k with
      | true =>
        rw [hg] at hcc
        have hct := cnt_true hg
        go_wp2
        go_roundw
        case rel => exact ⟨k + 1, by omega, by go_num, by rw [hct]; go_num, by first | rfl | trivial⟩
        case measure => simp [intOf]; omega
      | false =>
        rw [hg] at hcc
        have hct := cnt_false hg
        go_wp2
        go_roundw
        case rel => exact ⟨k + 1, by omega, by go_num, by rw [hct], by first | rfl | trivial⟩
        case measure => simp [intOf]; omega
    · obtain rfl : k = n := by omega
      have hcl := cnt_le g k
      by_cases h0 : cnt g k = 0
      · rw [h0]
        have ea := HA.out.trans (pickOf_none h0)
        clear HA
        go_wp2
        go_ret
        exact ⟨by rw [ea]; rfl, rfl⟩
      · obtain ⟨m, hm, hml⟩ := emod_cnt place h0
        obtain ⟨i, hi⟩ := exists_pick g m k hml
        have ea := HA.out.trans (pickOf_some h0 hm hi)
        clear HA
        subst ea
        obtain ⟨c, hc⟩ : ∃ c, c = cnt g k := ⟨_, rfl⟩
        have hc0 : ¬ (c : Int) = 0 := by omega
        have hkc : m < c := by omega
        have ht := tmod_emod place c (by omega)
        rw [hc, hm, ← hc] at ht
        rw [← hc]
        have HI := hide hi
        have HC := hide hc
        have hcn : c ≤ k := by omega
        clear hi hm h0 hml hcl hc
        go_wp2_with fail
        all_goals (first | rw [show place.tmod c + c = (m : Int) by omega] | rw [show place.tmod c = (m : Int) by omega])
        all_goals clear ht
        all_goals
          go_loopw [7, 8] (fun x i wr' => ∃ j : Nat, j ≤ k ∧ i = .int .i64 j ∧ cnt g j ≤ m ∧ x = .int .i64 ((m - cnt g j : Nat) : Int) ∧ wr' = wr) (fun _ i _ => k - (intOf i).toNat)
          case atStart => exact ⟨0, Nat.zero_le _, rfl, Nat.zero_le _, rfl, rfl⟩
          case round =>
            obtain ⟨j, hj, rfl, hcm, rfl, rfl⟩ := hrel
            by_cases hlt2 : j < k
            · obtain ⟨b, off, rfl, hbl, hcc⟩ := H.out j hlt2
              have hkn : (j : Int) < (k : Int) := by omega
              cases hg : g j with
              | true =>
                rw [hg] at hcc
                have hct := cnt_true hg
                by_cases he : cnt g j = m
                · obtain rfl := IsPick.one ⟨hlt2, hg, he⟩ HI.out
                  rw [show m - cnt g j = 0 by omega]
                  go_wp2
                  go_ret
                  exact ⟨rfl, rfl⟩
                · obtain ⟨x, hx⟩ : ∃ x, x = m - cnt g j := ⟨_, rfl⟩
                  have hx0 : ¬ (x : Int) = 0 := by omega
                  have hxm : x ≤ m := by omega
                  rw [← hx]
                  have HX := hide hx
                  clear hx
                  go_wp2
                  go_roundw
                  case rel => exact ⟨j + 1, by omega, by go_num, by omega, by rw [hct, show m - (cnt g j + 1) = x - 1 by have := HX.out; omega, Int.ofNat_sub (by omega)]; go_num, by first | rfl | trivial⟩
                  case measure => simp [intOf]; omega
              | false =>
                rw [hg] at hcc
                have hct := cnt_false hg
                go_wp2
                go_roundw
                case rel => exact ⟨j + 1, by omega, by go_num, by omega, by rw [hct], by first | rfl | trivial⟩
                case measure => simp [intOf]; omega
            · obtain rfl : j = k := by omega
              have := HC.out
              omega

/-- The document's After. -/
theorem after_any {w : World} {B : Nat} {ao : Option Addr} {n cap : Nat} {g : Nat → Bool} (h : SeesB w B ao n g) (hn : n ≤ 4611686018427387903) (hand : Int) (h1 : -1 ≤ hand) (h2 : hand < n) :
    Calls Try.prog 66 #[.slice ao n cap, .int .i64 hand] w fun e w' => e = .returned (.int .i64 (behindOf n g hand)) ∧ w' = w := by
  have H := hide h
  clear h
  obtain ⟨s, hs⟩ : ∃ s : Nat, hand + 1 = s := ⟨(hand + 1).toNat, by omega⟩
  have hst : (hand + 1).toNat = s := by omega
  go_enter Try.func66, Try.ntmps66
  go_wp2_with fail
  go_loopw [6] (fun i wr => ∃ k : Nat, k ≤ n ∧ i = .int .i64 (k + 1) ∧ (∀ j, j < k → g ((s + j) % n) = false) ∧ wr = w) (fun i _ => n + 1 - (intOf i).toNat)
  case atStart => exact ⟨0, Nat.zero_le _, rfl, fun j hj => by omega, rfl⟩
  case round =>
    obtain ⟨k, hk, rfl, hno, rfl⟩ := hrel
    by_cases hlt : k < n
    · obtain ⟨r, hr⟩ : ∃ r, r = (s + k) % n := ⟨_, rfl⟩
      have hm : r < n := by rw [hr]; exact Nat.mod_lt _ (by omega)
      obtain ⟨b, off, rfl, hbl, hcc⟩ := H.out _ hm
      have hkn : (k : Int) + 1 ≤ (n : Int) := by omega
      have hn0 : ¬ (n : Int) = 0 := by omega
      have ha1 : hand + ((k : Int) + 1) = (s : Int) + k := by omega
      have hmod : ((s : Int) + k) % (n : Int) = (r : Int) := by rw [hr]; simp
      have hrn : (r : Int) < (n : Int) := by omega
      have HR := hide hr
      have HN := hide hno
      clear hr hno
      cases hg : g r with
      | true =>
        rw [hg] at hcc
        go_wp2_with fail
        go_ret
        exact ⟨by rw [behindOf_some hlt (by rw [hst, ← HR.out]; exact hg) (by rw [hst]; exact HN.out), hst, ← HR.out, ← hmod]; rfl, rfl⟩
      | false =>
        rw [hg] at hcc
        go_wp2_with fail
        go_roundw
        case rel => exact ⟨k + 1, by omega, by go_num, fun j hj => by rcases Nat.lt_succ_iff_lt_or_eq.1 hj with h | rfl; exact HN.out j h; rw [← HR.out]; exact hg, by first | rfl | trivial⟩
        case measure => simp [intOf]; omega
    · obtain rfl : k = n := by omega
      go_wp2
      go_ret
      exact ⟨by rw [behindOf_none (by rw [hst]; exact hno)]; rfl, rfl⟩

end Go.Proofs.Ytdbiphibdaghkaa
