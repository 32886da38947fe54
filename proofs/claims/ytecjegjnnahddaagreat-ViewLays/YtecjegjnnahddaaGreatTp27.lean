/-
  Lemmas: VwSg.
-/
import Derived.Test.YtecjegjnnahddaaGreatTp14
/-
  View: the document's comparisons of words, numbers and objects
-/
namespace Go.Proofs.YtecjegjnnahddaaGreat
open Go.RowKit
set_option linter.unusedVariables false
set_option linter.unusedSimpArgs false
set_option linter.unnecessarySimpa false
set_option maxRecDepth 20000
namespace Vw
open Shape
set_option maxHeartbeats 2000000 in
theorem same13g {w : World} {B B' : Nat} {ao ao' : Option Addr} {n n' cap cap' : Nat} {f f' : Nat → Int} (h : Sees w B ao n f) (h' : Sees w B' ao' n' f') (hn : n ≤ 9223372036854775807) (hn' : n' ≤ 9223372036854775807) :
    Calls Tryz.prog 42 #[.slice ao n cap, .slice ao' n' cap'] w fun e w' => Tells e (n = n' ∧ ∀ i, i < n → f i = f' i) ∧ ∃ m, w' = w.drewN m := by
  by_cases hnn : n = n'
  rotate_left
  · have hb : ((n : Int) != (n' : Int)) = true := by simp; omega
    have HN := hide hnn
    clear hnn
    go_enter Tryz.func42, Tryz.ntmps42
    go_wp2_with fail
    go_ret
    exact ⟨Tells.no (fun h => HN.out h.1), 0, rfl⟩
  subst hnn
  have H := hide h
  have H' := hide h'
  clear h h'
  go_enter Tryz.func42, Tryz.ntmps42
  go_wp2_with fail
  go_loopw [5] (fun i wr => ∃ k m : Nat, k ≤ n ∧ i = .int .i64 k ∧ wr = w.drewN m ∧ Hid (∀ j, j < k → f j = f' j)) (fun i _ => n - (intOf i).toNat)
  case atStart => exact ⟨0, 0, Nat.zero_le _, rfl, rfl, fun j hj => absurd hj (by omega)⟩
  case round =>
    obtain ⟨k, m, hk, rfl, rfl, HK⟩ := hrel
    by_cases hlt : k < n
    · obtain ⟨b, off, rfl, hbl, hcc⟩ := H.out k hlt
      obtain ⟨b', off', rfl, hbl', hcc'⟩ := H'.out k hlt
      have hkn : (k : Int) < (n : Int) := by omega
      by_cases he : f k = f' k
      · have HE := hide he
        go_wp2
        go_quiet (fail)
        go_wp2
        go_roundw
        case rel => exact ⟨k + 1, _, by omega, by go_num, rfl, fun j hj => if h : j = k then h ▸ HE.out else HK.out j (by omega)⟩
        case measure => simp [intOf]; omega
      · have HE := hide he
        have hb : (f k != f' k) = true := by simp [he]
        clear he
        go_wp2
        go_quiet (fail)
        go_wp2
        go_ret
        exact ⟨Tells.no (fun h => HE.out (h.2 k hlt)), _, drewN_two _ _ _⟩
    · have hkn : ¬ (k : Int) < (n : Int) := by omega
      have e : k = n := by omega
      subst e
      go_wp2
      go_ret
      exact ⟨Tells.yes (by first | exact HK.out | exact ⟨rfl, HK.out⟩), _, rfl⟩
set_option maxHeartbeats 2000000 in
theorem sameIg {w : World} {ao ao' : Option Addr} {l l' : List Int} {cap cap' : Nat} (h : SeesN w ao l) (h' : SeesN w ao' l') (hn : l.length ≤ 9223372036854775807) (hn' : l'.length ≤ 9223372036854775807) :
    Calls Tryz.prog 44 #[.slice ao l.length cap, .slice ao' l'.length cap'] w fun e w' => Tells e (l = l') ∧ ∃ m, w' = w.drewN m := by
  have H := hide h
  have H' := hide h'
  clear h h'
  obtain ⟨n, hl⟩ : ∃ n, l.length = n := ⟨_, rfl⟩
  obtain ⟨n', hl'⟩ : ∃ n, l'.length = n := ⟨_, rfl⟩
  rw [hl, hl']
  rw [hl] at hn
  rw [hl'] at hn'
  have HL := hide hl
  have HL' := hide hl'
  clear hl hl'
  by_cases hnn : n = n'
  rotate_left
  · have hb : ((n : Int) != (n' : Int)) = true := by simp; omega
    have HN := hide hnn
    clear hnn
    go_enter Tryz.func44, Tryz.ntmps44
    go_wp2_with fail
    go_ret
    exact ⟨Tells.no (fun h => HN.out (by rw [← HL.out, ← HL'.out, h])), 0, rfl⟩
  subst hnn
  go_enter Tryz.func44, Tryz.ntmps44
  go_wp2_with fail
  go_loopw [5] (fun i wr => ∃ k m : Nat, k ≤ n ∧ i = .int .i64 k ∧ wr = w.drewN m ∧ Hid (∀ j, j < k → l[j]? = l'[j]?)) (fun i _ => n - (intOf i).toNat)
  case atStart => exact ⟨0, 0, Nat.zero_le _, rfl, rfl, fun j hj => absurd hj (by omega)⟩
  case round =>
    obtain ⟨k, m, hk, rfl, rfl, HK⟩ := hrel
    by_cases hlt : k < n
    · obtain ⟨x, hx⟩ : ∃ x, l[k]? = some x := ⟨l[k]'(by rw [HL.out]; exact hlt), List.getElem?_eq_getElem _⟩
      obtain ⟨y, hy⟩ : ∃ x, l'[k]? = some x := ⟨l'[k]'(by rw [HL'.out]; exact hlt), List.getElem?_eq_getElem _⟩
      obtain ⟨b, off, rfl, hbl, hcc⟩ := H.out k x hx
      obtain ⟨b', off', rfl, hbl', hcc'⟩ := H'.out k y hy
      have HX := hide hx
      have HY := hide hy
      clear hx hy
      have hkn : (k : Int) < (n : Int) := by omega
      by_cases he : x = y
      · subst he
        go_wp2
        go_quiet (fail)
        go_wp2
        go_roundw
        case rel => exact ⟨k + 1, _, by omega, by go_num, rfl, fun j hj => if h : j = k then by rw [h, HX.out, HY.out] else HK.out j (by omega)⟩
        case measure => simp [intOf]; omega
      · have HE := hide he
        have hb : (x != y) = true := by simp [he]
        clear he
        go_wp2
        go_quiet (fail)
        go_wp2
        go_ret
        exact ⟨Tells.no (fun h => HE.out (by have := HX.out; rw [h, HY.out] at this; injection this with this; exact this.symm)), _, drewN_two _ _ _⟩
    · have hkn : ¬ (k : Int) < (n : Int) := by omega
      have e : k = n := by omega
      subst e
      go_wp2
      go_ret
      exact ⟨Tells.yes (List.ext_getElem? (fun j => if h : j < k then HK.out j h else by rw [List.getElem?_eq_none (by rw [HL.out]; omega), List.getElem?_eq_none (by rw [HL'.out]; omega)])), _, rfl⟩

set_option maxHeartbeats 16000000 in
theorem sameObjG {us li fi ta us' li' fi' ta' : Bool} {ag ge lk nx ag' ge' lk' nx' : Int} {ns ci ns' cj : Nat} {ai aj : Option Addr} {g g' : Nat → Int} {w : World} (h : Sees w w.heap.size ai ns g) (h' : Sees w w.heap.size aj ns' g') (hn : ns ≤ 9223372036854775807) (hn' : ns' ≤ 9223372036854775807) :
    Calls Tryz.prog 43 #[.agg #[.bool us, .bool li, .bool fi, .bool ta, .int .i64 ag, .int .u64 ge, .int .u64 lk, .int .u64 nx, .slice ai ns ci], .agg #[.bool us', .bool li', .bool fi', .bool ta', .int .i64 ag', .int .u64 ge', .int .u64 lk', .int .u64 nx', .slice aj ns' cj]] w fun e w' => Tells e (us = us' ∧ li = li' ∧ fi = fi' ∧ ta = ta' ∧ ag = ag' ∧ ge = ge' ∧ lk = lk' ∧ nx = nx' ∧ ns = ns' ∧ ∀ i, i < ns → g i = g' i) ∧ Below w.heap.size w w' := by
  obtain ⟨W0, hW0, B0, R0⟩ := obox w us li fi ta ag ge lk nx ai ns ci
  obtain ⟨W1, hW1, B1, R1⟩ := obox W0 us' li' fi' ta' ag' ge' lk' nx' aj ns' cj
  have R01 := row_on R0 B1
  have HB := hide (B0.trans (B1.mono B0.size))
  have EQ := hide (same13g (cap := ci) (cap' := cj) (sees_on h HB.out) (sees_on h' HB.out) hn hn')
  have l0 : w.heap.size < W0.heap.size := R0.lt
  have x0 := R01.cell (i := 0) (by decide)
  have x1 := R01.cell (i := 1) (by decide)
  have x2 := R01.cell (i := 2) (by decide)
  have x3 := R01.cell (i := 3) (by decide)
  have x4 := R01.cell (i := 4) (by decide)
  have x5 := R01.cell (i := 5) (by decide)
  have x6 := R01.cell (i := 6) (by decide)
  have x7 := R01.cell (i := 7) (by decide)
  have x8 := R01.cell (i := 8) (by decide)
  have y0 := R1.cell (i := 0) (by decide)
  have y1 := R1.cell (i := 1) (by decide)
  have y2 := R1.cell (i := 2) (by decide)
  have y3 := R1.cell (i := 3) (by decide)
  have y4 := R1.cell (i := 4) (by decide)
  have y5 := R1.cell (i := 5) (by decide)
  have y6 := R1.cell (i := 6) (by decide)
  have y7 := R1.cell (i := 7) (by decide)
  have y8 := R1.cell (i := 8) (by decide)
  simp only [lrow] at x0 y0 x1 y1 x2 y2 x3 y3 x4 y4 x5 y5 x6 y6 x7 y7 x8 y8
  clear h h' B0 B1 R0 R1 R01 hn hn'
  go_enter Tryz.func43, Tryz.ntmps43
  by_cases h0 : us = us'
  rotate_left
  · have hb : (us != us') = true := by (cases us <;> cases us' <;> simp_all)
    have hc : (us == us') = false := by (cases us <;> cases us' <;> simp_all)
    have HH := hide h0
    clear h0
    go_wp2_with fail
    go_ret
    exact ⟨Tells.no (fun h => HH.out (by first | exact h.1 | exact h.2.1 | exact h.2.2.1 | exact h.2.2.2.1 | exact h.2.2.2.2.1 | exact h.2.2.2.2.2.1 | exact h.2.2.2.2.2.2.1 | exact h.2.2.2.2.2.2.2.1 | exact h.2.2.2.2.2.2.2.2.1)), HB.out⟩
  subst h0
  by_cases h1 : li = li'
  rotate_left
  · have hb : (li != li') = true := by (cases li <;> cases li' <;> simp_all)
    have hc : (li == li') = false := by (cases li <;> cases li' <;> simp_all)
    have HH := hide h1
    clear h1
    go_wp2_with fail
    go_ret
    exact ⟨Tells.no (fun h => HH.out (by first | exact h.1 | exact h.2.1 | exact h.2.2.1 | exact h.2.2.2.1 | exact h.2.2.2.2.1 | exact h.2.2.2.2.2.1 | exact h.2.2.2.2.2.2.1 | exact h.2.2.2.2.2.2.2.1 | exact h.2.2.2.2.2.2.2.2.1)), HB.out⟩
  subst h1
  by_cases h2 : fi = fi'
  rotate_left
  · have hb : (fi != fi') = true := by (cases fi <;> cases fi' <;> simp_all)
    have hc : (fi == fi') = false := by (cases fi <;> cases fi' <;> simp_all)
    have HH := hide h2
    clear h2
    go_wp2_with fail
    go_ret
    exact ⟨Tells.no (fun h => HH.out (by first | exact h.1 | exact h.2.1 | exact h.2.2.1 | exact h.2.2.2.1 | exact h.2.2.2.2.1 | exact h.2.2.2.2.2.1 | exact h.2.2.2.2.2.2.1 | exact h.2.2.2.2.2.2.2.1 | exact h.2.2.2.2.2.2.2.2.1)), HB.out⟩
  subst h2
  by_cases h3 : ta = ta'
  rotate_left
  · have hb : (ta != ta') = true := by (cases ta <;> cases ta' <;> simp_all)
    have hc : (ta == ta') = false := by (cases ta <;> cases ta' <;> simp_all)
    have HH := hide h3
    clear h3
    go_wp2_with fail
    go_ret
    exact ⟨Tells.no (fun h => HH.out (by first | exact h.1 | exact h.2.1 | exact h.2.2.1 | exact h.2.2.2.1 | exact h.2.2.2.2.1 | exact h.2.2.2.2.2.1 | exact h.2.2.2.2.2.2.1 | exact h.2.2.2.2.2.2.2.1 | exact h.2.2.2.2.2.2.2.2.1)), HB.out⟩
  subst h3
  by_cases h4 : ag = ag'
  rotate_left
  · have hb : (ag != ag') = true := by simp [h4]
    have hc : (ag == ag') = false := by simp [h4]
    have HH := hide h4
    clear h4
    go_wp2_with fail
    go_ret
    exact ⟨Tells.no (fun h => HH.out (by first | exact h.1 | exact h.2.1 | exact h.2.2.1 | exact h.2.2.2.1 | exact h.2.2.2.2.1 | exact h.2.2.2.2.2.1 | exact h.2.2.2.2.2.2.1 | exact h.2.2.2.2.2.2.2.1 | exact h.2.2.2.2.2.2.2.2.1)), HB.out⟩
  subst h4
  by_cases h5 : ge = ge'
  rotate_left
  · have hb : (ge != ge') = true := by simp [h5]
    have hc : (ge == ge') = false := by simp [h5]
    have HH := hide h5
    clear h5
    go_wp2_with fail
    go_ret
    exact ⟨Tells.no (fun h => HH.out (by first | exact h.1 | exact h.2.1 | exact h.2.2.1 | exact h.2.2.2.1 | exact h.2.2.2.2.1 | exact h.2.2.2.2.2.1 | exact h.2.2.2.2.2.2.1 | exact h.2.2.2.2.2.2.2.1 | exact h.2.2.2.2.2.2.2.2.1)), HB.out⟩
  subst h5
  by_cases h6 : lk = lk'
  rotate_left
  · have hb : (lk != lk') = true := by simp [h6]
    have hc : (lk == lk') = false := by simp [h6]
    have HH := hide h6
    clear h6
    go_wp2_with fail
    go_ret
    exact ⟨Tells.no (fun h => HH.out (by first | exact h.1 | exact h.2.1 | exact h.2.2.1 | exact h.2.2.2.1 | exact h.2.2.2.2.1 | exact h.2.2.2.2.2.1 | exact h.2.2.2.2.2.2.1 | exact h.2.2.2.2.2.2.2.1 | exact h.2.2.2.2.2.2.2.2.1)), HB.out⟩
  subst h6
  by_cases h7 : nx = nx'
  rotate_left
  · have hb : (nx != nx') = true := by simp [h7]
    have hc : (nx == nx') = false := by simp [h7]
    have HH := hide h7
    clear h7
    go_wp2_with fail
    go_ret
    exact ⟨Tells.no (fun h => HH.out (by first | exact h.1 | exact h.2.1 | exact h.2.2.1 | exact h.2.2.2.1 | exact h.2.2.2.2.1 | exact h.2.2.2.2.2.1 | exact h.2.2.2.2.2.2.1 | exact h.2.2.2.2.2.2.2.1 | exact h.2.2.2.2.2.2.2.2.1)), HB.out⟩
  subst h7
  by_cases he : ns = ns' ∧ ∀ i, i < ns → g i = g' i
  · have HE := hide he
    clear he
    go_wp2_with (go_at_call 42; refine EQ.out.mono ?_; rintro e w1 ⟨ht, m1, rfl⟩; obtain rfl := ht.is HE.out)
    go_ret
    exact ⟨Tells.yes (by simpa using HE.out), below_drewN HB.out _⟩
  · have HE := hide he
    clear he
    go_wp2_with (go_at_call 42; refine EQ.out.mono ?_; rintro e w1 ⟨ht, m1, rfl⟩; obtain rfl := ht.isnt HE.out)
    go_ret
    exact ⟨Tells.no (fun h => HE.out (by simpa using h)), below_drewN HB.out _⟩
end Vw
end Go.Proofs.YtecjegjnnahddaaGreat
