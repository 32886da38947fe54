/-
  Graph: a handle that is good: the package's Object
-/
import Derived.Test.YtlbcjolbgeficaaGrM
namespace Go.Proofs.Ytlbcjolbgeficaa
open Go.RowKit
set_option linter.unusedVariables false
set_option linter.unusedSimpArgs false
set_option linter.unnecessarySimpa false
set_option maxRecDepth 20000
namespace Gr
theorem gd_val {os : List Ob} {u : Int} {x y : Int} (hx : u % 4294967296 = x) (hy : u / 4294967296 = y) : (∀ k o, x = (k : Nat) + 1 → os[k]? = some o → o.us = true → o.ge = y → gd os u = k + 1) ∧ (∀ k o, x = (k : Nat) + 1 → os[k]? = some o → (o.us = true → ¬ o.ge = y) → gd os u = 0) ∧ (x < 1 → gd os u = 0) ∧ ((os.length : Int) < x → gd os u = 0) := by
  refine ⟨?_, ?_, ?_, ?_⟩
  · intro k o hk ho hu hg
    have e : (u % 4294967296).toNat - 1 = k := by omega
    simp only [gd, e, ho]
    rw [if_pos ⟨by omega, hu, by omega⟩]
    omega
  · intro k o hk ho hu
    have e : (u % 4294967296).toNat - 1 = k := by omega
    simp only [gd, e, ho]
    rw [if_neg (fun h => hu h.2.1 (by omega))]
  · intro h
    unfold gd
    split
    · rw [if_neg (fun h' => by omega)]
    · rfl
  · intro h
    have e : os[(u % 4294967296).toNat - 1]? = none := List.getElem?_eq_none (by omega)
    simp only [gd, e]
theorem Ob.cells9 {w : World} {b p : Nat} {o : Ob} {sv : Value} (h : ∀ q, q < 9 → w.cell? ⟨b, p + q, none⟩ = some (o.cell sv q)) : w.cell? ⟨b, p, none⟩ = some (.bool o.us) ∧ w.cell? ⟨b, p + 1, none⟩ = some (.bool o.li) ∧ w.cell? ⟨b, p + 2, none⟩ = some (.bool o.fi) ∧ w.cell? ⟨b, p + 3, none⟩ = some (.bool o.ta) ∧ w.cell? ⟨b, p + 4, none⟩ = some (.int .i64 o.ag) ∧ w.cell? ⟨b, p + 5, none⟩ = some (.int .u64 o.ge) ∧ w.cell? ⟨b, p + 6, none⟩ = some (.int .u64 o.lk) ∧ w.cell? ⟨b, p + 7, none⟩ = some (.int .u64 o.nx) ∧ w.cell? ⟨b, p + 8, none⟩ = some sv :=
  ⟨by have := h 0 (by decide); simpa [Ob.cell] using this, h 1 (by decide), h 2 (by decide), h 3 (by decide), h 4 (by decide), h 5 (by decide), h 6 (by decide), h 7 (by decide), h 8 (by decide)⟩

set_option maxHeartbeats 400000 in
theorem isObj_ok {n : Nat} {oa : Option Addr} {cb : Nat} {w : World} (k : Int) : Calls Try.prog 23 #[.slice oa n cb, .int .i64 k] w fun e w' => e = .returned (.bool (decide (1 ≤ k ∧ k ≤ (n : Int)))) ∧ w' = w := by
  by_cases q1 : 1 ≤ k
  · by_cases q2 : k ≤ (n : Int)
    · have hd : decide (1 ≤ k ∧ k ≤ (n : Int)) = true := by simp [q1, q2]
      rw [hd]
      clear hd
      go_enter Try.func23, Try.ntmps23
      go_wp2
      go_ret
      exact ⟨rfl, rfl⟩
    · have hd : decide (1 ≤ k ∧ k ≤ (n : Int)) = false := by simp [q2]
      rw [hd]
      clear hd
      go_enter Try.func23, Try.ntmps23
      go_wp2
      go_ret
      exact ⟨rfl, rfl⟩
  · have hd : decide (1 ≤ k ∧ k ≤ (n : Int)) = false := by simp [q1]
    rw [hd]
    clear hd
    go_enter Try.func23, Try.ntmps23
    go_wp2
    go_ret
    exact ⟨rfl, rfl⟩
theorem isObj_yes {n : Nat} {oa : Option Addr} {cb : Nat} {w : World} {k : Int} (h : 1 ≤ k ∧ k ≤ (n : Int)) : Calls Try.prog 23 #[.slice oa n cb, .int .i64 k] w fun e w' => e = .returned (.bool true) ∧ w' = w := by
  have := isObj_ok (n := n) (oa := oa) (cb := cb) (w := w) k
  rwa [show decide (1 ≤ k ∧ k ≤ (n : Int)) = true by simpa using h] at this
theorem isObj_no {n : Nat} {oa : Option Addr} {cb : Nat} {w : World} {k : Int} (h : ¬ (1 ≤ k ∧ k ≤ (n : Int))) : Calls Try.prog 23 #[.slice oa n cb, .int .i64 k] w fun e w' => e = .returned (.bool false) ∧ w' = w := by
  have := isObj_ok (n := n) (oa := oa) (cb := cb) (w := w) k
  rwa [show decide (1 ≤ k ∧ k ≤ (n : Int)) = false by simpa using h] at this

set_option maxHeartbeats 2000000 in
theorem object_ok {os : List Ob} {oa : Option Addr} {cb : Nat} {w : World} (hS : Sob w oa os) (hB : Bd os) {u : Int} (h0 : 0 ≤ u) (h1 : u < 18446744073709551616) : Calls Try.prog 29 #[.slice oa os.length cb, .int .u64 u] w fun e w' => e = .returned (.int .i64 (gd os u : Int)) ∧ Below w.heap.size w w' := by
  obtain ⟨x, hx⟩ : ∃ x, u % 4294967296 = x := ⟨_, rfl⟩
  obtain ⟨y, hy⟩ : ∃ y, u / 4294967296 = y := ⟨_, rfl⟩
  have GV := hide (gd_val (os := os) hx hy)
  have IX := hide (fun w1 => index_any u h0 h1 w1)
  have GX := hide (fun w1 => gen_any u h0 h1 w1)
  rw [hx] at IX
  rw [hy] at GX
  have hx0 : 0 ≤ x ∧ x < 4294967296 := by omega
  have hno := hB.no
  clear hx hy h0 h1 hB
  have HS := hide hS
  clear hS
  obtain ⟨n, hn⟩ : ∃ n, os.length = n := ⟨_, rfl⟩
  by_cases q1 : 1 ≤ x
  · by_cases q2 : x ≤ (n : Int)
    · obtain ⟨k, rfl⟩ : ∃ k : Nat, x = (k : Int) + 1 := ⟨x.toNat - 1, by omega⟩
      have hko : k < n := by omega
      have hko2 : (k : Int) < (n : Int) := by omega
      have hkl : k < os.length := by omega
      obtain ⟨o, ho⟩ : ∃ o, os[k]? = some o := ⟨os[k], by simp [hkl]⟩
      obtain ⟨b, off, ai, ci, hoa, hbl, hoc, hse⟩ := HS.out k o ho
      subst hoa
      have OC := hide (Ob.cells9 hoc)
      clear hoc hse
      rw [hn]
      obtain ⟨us, li, fi, ta, ag, ge, lk, nx, sl⟩ := o
      obtain ⟨o0, o1, o2, o3, o4, o5, o6, o7, o8⟩ := OC.out
      simp only at o0 o1 o2 o3 o4 o5 o6 o7 o8
      have IO := hide (fun w1 => isObj_yes (n := n) (oa := some ⟨b, off, none⟩) (cb := cb) (w := w1) (k := (k : Int) + 1) (by omega))
      have YES := hide (fun h1 h2 => GV.out.1 k _ rfl ho h1 h2)
      have NOT := hide (fun h1 => GV.out.2.1 k _ rfl ho h1)
      simp only at YES NOT
      clear OC ho hkl hn
      go_enter Try.func29, Try.ntmps29
      go_upto_region 5 with (first | (go_at_call 34; refine (IX.out _).mono ?_; rintro e w1 ⟨rfl, hq⟩; obtain rfl := hq.symm; clear hq) | (go_at_call 23; refine (IO.out _).mono ?_; rintro e w1 ⟨rfl, hq⟩; obtain rfl := hq.symm; clear hq))
      obtain ⟨W4, hW4, B4, R4⟩ := obox w us li fi ta ag ge lk nx ai sl.length ci
      have HB4 := hide B4
      have p0 : W4.cell? ⟨w.heap.size, 0, none⟩ = some (.bool us) := R4.cell (i := 0) (by decide)
      have p5 : W4.cell? ⟨w.heap.size, 5, none⟩ = some (.int .u64 ge) := R4.cell (i := 5) (by decide)
      simp only [hW4]
      clear hW4 o0 o1 o2 o3 o4 o5 o6 o7 o8 R4 B4
      cases us
      · have NO := hide (NOT.out (by simp))
        clear YES NOT
        go_quiet (fail)
        go_wp2
        go_ret
        exact ⟨ret_int (by rw [NO.out]; rfl), below_drewN HB4.out _⟩
      · by_cases hg : ge = y
        · have hg2 : (ge != y) = false := by simp [hg]
          have YS := hide (YES.out rfl hg)
          clear YES NOT hg
          go_quiet ((go_at_call 35; exact Calls.quiet_of_same (GX.out _)))
          go_wp2
          go_ret
          exact ⟨ret_int (by rw [YS.out]; simp), below_drewN HB4.out _⟩
        · have hg2 : (ge != y) = true := by simp [hg]
          have NO := hide (NOT.out (fun _ => hg))
          clear YES NOT hg
          go_quiet ((go_at_call 35; exact Calls.quiet_of_same (GX.out _)))
          go_wp2
          go_ret
          exact ⟨ret_int (by rw [NO.out]; rfl), below_drewN HB4.out _⟩
    · have NO := hide (GV.out.2.2.2 (by omega))
      have IO := hide (fun w1 => isObj_no (n := n) (oa := oa) (cb := cb) (w := w1) (k := x) (by omega))
      rw [hn]
      clear GV hn
      go_enter Try.func29, Try.ntmps29
      go_wp2_with (first | (go_at_call 34; refine (IX.out _).mono ?_; rintro e w1 ⟨rfl, hq⟩; obtain rfl := hq.symm; clear hq) | (go_at_call 23; refine (IO.out _).mono ?_; rintro e w1 ⟨rfl, hq⟩; obtain rfl := hq.symm; clear hq))
      go_ret
      exact ⟨ret_int (by rw [NO.out]; rfl), Below.refl _ _⟩
  · have NO := hide (GV.out.2.2.1 (by omega))
    have IO := hide (fun w1 => isObj_no (n := n) (oa := oa) (cb := cb) (w := w1) (k := x) (by omega))
    rw [hn]
    clear GV hn
    go_enter Try.func29, Try.ntmps29
    go_wp2_with (first | (go_at_call 34; refine (IX.out _).mono ?_; rintro e w1 ⟨rfl, hq⟩; obtain rfl := hq.symm; clear hq) | (go_at_call 23; refine (IO.out _).mono ?_; rintro e w1 ⟨rfl, hq⟩; obtain rfl := hq.symm; clear hq))
    go_ret
    exact ⟨ret_int (by rw [NO.out]; rfl), Below.refl _ _⟩
end Gr
end Go.Proofs.Ytlbcjolbgeficaa
