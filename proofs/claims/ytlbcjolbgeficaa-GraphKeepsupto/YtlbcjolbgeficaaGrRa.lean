/-
  Graph: comparisons; the document's Good and Handle
-/
import Derived.Test.YtlbcjolbgeficaaGrG
namespace Go.Proofs.Ytlbcjolbgeficaa
open Go.RowKit
set_option linter.unusedVariables false
set_option linter.unusedSimpArgs false
set_option linter.unnecessarySimpa false
set_option maxRecDepth 20000
namespace Gr
set_option maxHeartbeats 1000000 in
theorem sameB {w : World} {ao ao' : Option Addr} {n cap cap' : Nat} {l : List Bool} (h : SeesB w ao l) (h' : SeesB w ao' l) (hl : l.length = n) (hn : n ≤ 9223372036854775807) :
    Calls Try.prog 15 #[.slice ao n cap, .slice ao' n cap'] w fun e w' => e = .returned (.bool true) ∧ ∃ m, w' = w.drewN m := by
  have H := hide h
  have H' := hide h'
  have HL := hide hl
  clear h h' hl
  go_enter Try.func15, Try.ntmps15
  go_wp2_with fail
  go_loopw [5] (fun i wr => ∃ k m : Nat, k ≤ n ∧ i = .int .i64 k ∧ wr = w.drewN m) (fun i _ => n - (intOf i).toNat)
  case atStart => exact ⟨0, 0, Nat.zero_le _, rfl, rfl⟩
  case round =>
    obtain ⟨k, m, hk, rfl, rfl⟩ := hrel
    by_cases hlt : k < n
    · obtain ⟨x, hx⟩ : ∃ x, l[k]? = some x := ⟨l[k]'(by rw [HL.out]; exact hlt), by simp [HL.out, hlt]⟩
      obtain ⟨b, off, rfl, hbl, hcc⟩ := H.out k x hx
      obtain ⟨b', off', rfl, hbl', hcc'⟩ := H'.out k x hx
      have hkn : (k : Int) < (n : Int) := by omega
      clear hx
      go_wp2
      go_quiet (fail)
      go_wp2
      go_roundw
      case rel => exact ⟨k + 1, _, by omega, by go_num, rfl⟩
      case measure => simp [intOf]; omega
    · have hkn : ¬ (k : Int) < (n : Int) := by omega
      go_wp2
      go_ret
      exact ⟨rfl, _, rfl⟩
set_option maxHeartbeats 1000000 in
theorem sameN {w : World} {ao ao' : Option Addr} {n cap cap' : Nat} {l : List Int} (h : SeesN w ao l) (h' : SeesN w ao' l) (hl : l.length = n) (hn : n ≤ 9223372036854775807) :
    Calls Try.prog 20 #[.slice ao n cap, .slice ao' n cap'] w fun e w' => e = .returned (.bool true) ∧ ∃ m, w' = w.drewN m := by
  have H := hide h
  have H' := hide h'
  have HL := hide hl
  clear h h' hl
  go_enter Try.func20, Try.ntmps20
  go_wp2_with fail
  go_loopw [5] (fun i wr => ∃ k m : Nat, k ≤ n ∧ i = .int .i64 k ∧ wr = w.drewN m) (fun i _ => n - (intOf i).toNat)
  case atStart => exact ⟨0, 0, Nat.zero_le _, rfl, rfl⟩
  case round =>
    obtain ⟨k, m, hk, rfl, rfl⟩ := hrel
    by_cases hlt : k < n
    · obtain ⟨x, hx⟩ : ∃ x, l[k]? = some x := ⟨l[k]'(by rw [HL.out]; exact hlt), by simp [HL.out, hlt]⟩
      obtain ⟨b, off, rfl, hbl, hcc⟩ := H.out k x hx
      obtain ⟨b', off', rfl, hbl', hcc'⟩ := H'.out k x hx
      have hkn : (k : Int) < (n : Int) := by omega
      clear hx
      go_wp2
      go_quiet (fail)
      go_wp2
      go_roundw
      case rel => exact ⟨k + 1, _, by omega, by go_num, rfl⟩
      case measure => simp [intOf]; omega
    · have hkn : ¬ (k : Int) < (n : Int) := by omega
      go_wp2
      go_ret
      exact ⟨rfl, _, rfl⟩
set_option maxHeartbeats 1000000 in
theorem sameU {w : World} {ao ao' : Option Addr} {n cap cap' : Nat} {l : List Int} (h : SeesU w ao l) (h' : SeesU w ao' l) (hl : l.length = n) (hn : n ≤ 9223372036854775807) :
    Calls Try.prog 14 #[.slice ao n cap, .slice ao' n cap'] w fun e w' => e = .returned (.bool true) ∧ ∃ m, w' = w.drewN m := by
  have H := hide h
  have H' := hide h'
  have HL := hide hl
  clear h h' hl
  go_enter Try.func14, Try.ntmps14
  go_wp2_with fail
  go_loopw [5] (fun i wr => ∃ k m : Nat, k ≤ n ∧ i = .int .i64 k ∧ wr = w.drewN m) (fun i _ => n - (intOf i).toNat)
  case atStart => exact ⟨0, 0, Nat.zero_le _, rfl, rfl⟩
  case round =>
    obtain ⟨k, m, hk, rfl, rfl⟩ := hrel
    by_cases hlt : k < n
    · obtain ⟨x, hx⟩ : ∃ x, l[k]? = some x := ⟨l[k]'(by rw [HL.out]; exact hlt), by simp [HL.out, hlt]⟩
      obtain ⟨b, off, rfl, hbl, hcc⟩ := H.out k x hx
      obtain ⟨b', off', rfl, hbl', hcc'⟩ := H'.out k x hx
      have hkn : (k : Int) < (n : Int) := by omega
      clear hx
      go_wp2
      go_quiet (fail)
      go_wp2
      go_roundw
      case rel => exact ⟨k + 1, _, by omega, by go_num, rfl⟩
      case measure => simp [intOf]; omega
    · have hkn : ¬ (k : Int) < (n : Int) := by omega
      go_wp2
      go_ret
      exact ⟨rfl, _, rfl⟩
theorem row_seesB {w : World} {g n : Nat} {f : Nat → Bool} (h : w.rowIs g 4 n (fun i => .bool (f i))) : SeesB w (some ⟨g, 0, none⟩) ((List.range n).map f) := by
  intro j c hj
  have hjl : j < n := by have := (List.getElem?_eq_some_iff.1 hj).1; simpa using this
  simp [hjl] at hj
  subst hj
  exact ⟨g, 0, rfl, h.lt, by simpa using h.cell hjl⟩

set_option maxHeartbeats 4000000 in
theorem goodr_ok {c : Vc} {a : Av} {w : World} (hS : Sob w a.oa c.os) (hB : Bd c.os) {u : Int} (h0 : 0 ≤ u) (h1 : u < 18446744073709551616) : Calls Try.prog 26 #[vl c a, .int .u64 u] w fun e w' => e = .returned (.int .i64 (gd c.os u : Int)) ∧ Below w.heap.size w w' := by
  obtain ⟨x, hx⟩ : ∃ x, u % 4294967296 = x := ⟨_, rfl⟩
  obtain ⟨y, hy⟩ : ∃ y, u / 4294967296 = y := ⟨_, rfl⟩
  have GV := hide (gd_val (os := c.os) hx hy)
  have IX := hide (fun w1 => index_r u h0 h1 w1)
  have GX := hide (fun w1 => gen_r u h0 h1 w1)
  rw [hx] at IX
  rw [hy] at GX
  have hx0 : 0 ≤ x ∧ x < 4294967296 := by omega
  have hno := hB.no
  obtain ⟨W0, hW0, B0, R0⟩ := vbox w c a
  have c6 := (vcells R0).2.2.2.2.2.2.1
  have HS := hide (hS.below B0)
  have HB0 := hide B0
  clear hx hy h0 h1 hB hS B0 R0
  obtain ⟨ph, co, ro, aa, na, ca, ra, cr, wa, nw, cw, oa, cb, fa, nf, cf, ga, ng, cg, qa, cq, k0, k1, k2, k3⟩ := a
  simp only [vl]
  simp only at hW0 c6 HS
  obtain ⟨n, hn⟩ : ∃ n, c.os.length = n := ⟨_, rfl⟩
  rw [hn] at hW0 c6 hno ⊢
  have Hn := hide hn
  clear hn
  by_cases q1 : 1 ≤ x
  · by_cases q2 : x ≤ (n : Int)
    · obtain ⟨k, rfl⟩ : ∃ k : Nat, x = (k : Int) + 1 := ⟨x.toNat - 1, by omega⟩
      have hko : k < n := by omega
      have hko2 : (k : Int) < (n : Int) := by omega
      have hkl : k < c.os.length := by rw [Hn.out]; exact hko
      obtain ⟨o, ho⟩ : ∃ o, c.os[k]? = some o := ⟨c.os[k], by simp [hkl]⟩
      obtain ⟨b, off, ai, ci, hoa, hbl, hoc, hse⟩ := HS.out k o ho
      subst hoa
      have OC := hide (Ob.cells9 hoc)
      clear hoc hse
      obtain ⟨us, li, fi, ta, ag, ge, lk, nx, sl⟩ := o
      have o0 := OC.out.1
      have o5 := OC.out.2.2.2.2.2.1
      simp only at o0 o5
      have YES := hide (fun h1 h2 => GV.out.1 k _ rfl ho h1 h2)
      have NOT := hide (fun h1 => GV.out.2.1 k _ rfl ho h1)
      simp only at YES NOT
      have l1 : ¬ ((k : Int) + 1 < 1) := by omega
      have l2 : ¬ ((n : Int) < (k : Int) + 1) := by omega
      have l4 : ¬ ((n : Int) ≤ (k : Int)) := by omega
      have l5 : ¬ (n ≤ k) := by omega
      have l3 : IntKind.i64.wrap (k : Int) = (k : Int) := by rw [IntKind.wrap_i64]; omega
      clear OC ho hkl hno hx0 q1 q2 hbl
      go_enter Try.func26, Try.ntmps26
      go_upto_region 2 with (go_at_call 32; refine (IX.out _).mono ?_; rintro e w1 ⟨rfl, hq⟩; obtain rfl := hq.symm; clear hq)
      clear l1 l2 l4 l5
      have m1 : ¬ ((k : Int) + 1 < 1) := by omega
      have m2 : ¬ ((n : Int) < (k : Int) + 1) := by omega
      have m3 : decide ((k : Int) + 1 < 1) = false := decide_eq_false m1
      have m4 : decide ((n : Int) < (k : Int) + 1) = false := decide_eq_false m2
      cases us
      · have NO := hide (NOT.out (by simp))
        clear YES NOT
        go_quiet (fail)
        go_wp2
        go_ret
        exact ⟨ret_int (by rw [NO.out]; rfl), below_drewN HB0.out _⟩
      · by_cases hg : ge = y
        · have hg2 : (ge != y) = false := by simp [hg]
          have YS := hide (YES.out rfl hg)
          clear YES NOT hg
          go_quiet ((go_at_call 33; exact Calls.quiet_of_same (GX.out _)))
          go_wp2
          go_ret
          exact ⟨ret_int (by rw [YS.out]; omega), below_drewN HB0.out _⟩
        · have hg2 : (ge != y) = true := by simp [hg]
          have NO := hide (NOT.out (fun _ => hg))
          clear YES NOT hg
          go_quiet ((go_at_call 33; exact Calls.quiet_of_same (GX.out _)))
          go_wp2
          go_ret
          exact ⟨ret_int (by rw [NO.out]; rfl), below_drewN HB0.out _⟩
    · have NO := hide (GV.out.2.2.2 (by rw [Hn.out]; omega))
      have l1 : ¬ (x < 1) := by omega
      have l2 : (n : Int) < x := by omega
      clear GV
      go_enter Try.func26, Try.ntmps26
      go_upto_region 2 with (go_at_call 32; refine (IX.out _).mono ?_; rintro e w1 ⟨rfl, hq⟩; obtain rfl := hq.symm; clear hq)
      have m1 : ¬ (x < 1) := by omega
      have m3 : decide (x < 1) = false := decide_eq_false m1
      have m2 : (n : Int) < x := by omega
      have m4 : decide ((n : Int) < x) = true := decide_eq_true m2
      clear l1 l2 hx0 hno q1 q2
      go_quiet (fail)
      go_wp2
      go_ret
      exact ⟨ret_int (by rw [NO.out]; rfl), below_drewN HB0.out _⟩
  · have NO := hide (GV.out.2.2.1 (by omega))
    have l1 : x < 1 := by omega
    clear GV
    go_enter Try.func26, Try.ntmps26
    go_upto_region 2 with (go_at_call 32; refine (IX.out _).mono ?_; rintro e w1 ⟨rfl, hq⟩; obtain rfl := hq.symm; clear hq)
    go_quiet (fail)
    go_wp2
    go_ret
    exact ⟨ret_int (by rw [NO.out]; rfl), below_drewN HB0.out _⟩
end Gr
end Go.Proofs.Ytlbcjolbgeficaa
