/-
  Hue: the document's among, Shown, hues
-/
import Derived.Test.YtcjlbecmghaalaaHuF
namespace Go.Proofs.Ytcjlbecmghaalaa
open Go.RowKit
set_option linter.unusedVariables false
set_option linter.unusedSimpArgs false
set_option linter.unnecessarySimpa false
set_option maxRecDepth 20000
namespace Hu
open Gr
set_option maxHeartbeats 400000 in
theorem rindex_any (h : Int) (h0 : 0 ≤ h) (h1 : h < 18446744073709551616) (w : World) : Calls Try.prog 44 #[.int .u64 h] w fun e w' => e = .returned (.int .i64 (h % 4294967296)) ∧ w' = w := by
  have e1 : h.tmod 4294967296 = h % 4294967296 := Int.tmod_eq_emod_of_nonneg h0
  have e2 : IntKind.i64.wrap (h % 4294967296) = h % 4294967296 := by rw [IntKind.wrap_i64]; omega
  have e3 : wrap64 (h % 4294967296) = h % 4294967296 := by unfold wrap64; omega
  go_enter Try.func44, Try.ntmps44
  go_wp2
  go_ret
  exact ⟨by first | rfl | (rw [e1, e3]; done) | (simp [e1, e2, e3]; done), rfl⟩
set_option maxHeartbeats 400000 in
theorem rgen_any (h : Int) (h0 : 0 ≤ h) (h1 : h < 18446744073709551616) (w : World) : Calls Try.prog 61 #[.int .u64 h] w fun e w' => e = .returned (.int .u64 (h / 4294967296)) ∧ w' = w := by
  have e1 : h.tdiv 4294967296 = h / 4294967296 := Int.tdiv_eq_ediv_of_nonneg h0
  have e2 : IntKind.u64.wrap (h / 4294967296) = h / 4294967296 := by rw [IntKind.wrap_u64]; omega
  go_enter Try.func61, Try.ntmps61
  go_wp2
  go_ret
  exact ⟨by first | rfl | (rw [e1, e2]; done) | (simp [e1, e2]; done), rfl⟩

set_option maxHeartbeats 1000000 in
theorem among_ok {w : World} {la : Option Addr} {lc : Nat} {l : List Int} (hL : SeesN w la l) (hl : l.length ≤ 17592186044416) (x : Int) : Calls Try.prog 60 #[.slice la l.length lc, .int .i64 x] w fun e w' => e = .returned (.bool (decide (x ∈ l))) ∧ w' = w := by
  have HL := hide hL
  obtain ⟨m, hm⟩ : ∃ m, l.length = m := ⟨_, rfl⟩
  rw [hm] at hl ⊢
  have Hm := hide hm
  clear hL hm
  go_enter Try.func60, Try.ntmps60
  go_wp2_with fail
  go_loopw [5] (fun i wr => ∃ (k : Nat), k ≤ m ∧ i = .int .i64 k ∧ Hid (x ∉ l.take k) ∧ wr = w) (fun i _ => m - (intOf i).toNat)
  case atStart => exact ⟨0, Nat.zero_le _, rfl, (by simp : x ∉ l.take 0), rfl⟩
  case round =>
    obtain ⟨k, hk, rfl, HN, rfl⟩ := hrel
    by_cases hlt : k < m
    · have hkn : (k : Int) < (m : Int) := by omega
      obtain ⟨y, hy⟩ : ∃ y, l[k]? = some y := ⟨l[k]'(by rw [Hm.out]; exact hlt), by simp [Hm.out, hlt]⟩
      obtain ⟨b2, off2, hla, hbl2, hcc2⟩ := HL.out k y hy
      subst hla
      by_cases h1 : y = x
      · have h1b : (y == x) = true := by simp [h1]
        have IN := hide (show x ∈ l from h1 ▸ List.mem_of_getElem? hy)
        clear h1 hy
        go_wp2_with fail
        go_ret
        exact ⟨by simp [IN.out], rfl⟩
      · have h1b : (y == x) = false := by simp [h1]
        have NN := hide (show x ∉ l.take (k + 1) by
          rw [List.take_add_one, hy]
          intro hin
          rcases List.mem_append.1 hin with hin | hin
          · exact HN.out hin
          · simp at hin; exact h1 hin.symm)
        clear h1 hy
        go_wp2_with fail
        go_roundw
        case rel => exact ⟨k + 1, by omega, by go_num, NN.out, by first | rfl | trivial⟩
        case measure => simp [intOf]; omega
    · have hkn : ¬ (k : Int) < (m : Int) := by omega
      have e0 : l.take k = l := List.take_of_length_le (by rw [Hm.out]; omega)
      rw [e0] at HN
      go_wp2_with fail
      go_ret
      exact ⟨by simp [HN.out], rfl⟩

set_option maxHeartbeats 4000000 in
theorem shown_ok {c : Vc} {a : Av} {w : World} (hS : Sob w a.oa c.os) (hB : Bd c.os) {u : Int} (h0 : 0 ≤ u) (h1 : u < 18446744073709551616) : Calls Try.prog 43 #[vl c a, .int .u64 u] w fun e w' => e = .returned (.int .i64 (gd c.os u : Int)) ∧ Below w.heap.size w w' := by
  obtain ⟨W0, hW0, B0, R0⟩ := vbox w c a
  have c6 := (vcells R0).2.2.2.2.2.2.1
  have HB0 := hide B0
  have HS0 := hide (hS.below B0)
  have hno := hB.no
  clear hS hB B0 R0
  obtain ⟨ph, co, ro, aa, na, ca, ra, cr, wa, nw, cw, oa, cb, fa, nf, cf, ga, ng, cg, qa, cq, k0, k1, k2, k3⟩ := a
  simp only [vl]
  simp only at hW0 c6 HS0
  obtain ⟨x, hx⟩ : ∃ x, u % 4294967296 = x := ⟨_, rfl⟩
  obtain ⟨y, hy⟩ : ∃ y, u / 4294967296 = y := ⟨_, rfl⟩
  have GV := hide (gd_val (os := c.os) hx hy)
  have IX := hide (fun w1 => rindex_any u h0 h1 w1)
  have GX := hide (fun w1 => rgen_any u h0 h1 w1)
  rw [hx] at IX
  rw [hy] at GX
  have hx0 : 0 ≤ x ∧ x < 4294967296 := by omega
  clear hx hy h0 h1
  obtain ⟨os, hos⟩ : ∃ os, c.os = os := ⟨_, rfl⟩
  rw [hos] at HS0 GV hno ⊢
  simp only [hos] at hW0 c6 ⊢
  obtain ⟨n, hn⟩ : ∃ n, os.length = n := ⟨_, rfl⟩
  rw [hn] at hW0 c6 hno GV ⊢
  have Hn := hide hn
  clear hos hn
  by_cases q1 : 1 ≤ x
  · by_cases q2 : x ≤ (n : Int)
    · obtain ⟨k, rfl⟩ : ∃ k : Nat, x = (k : Int) + 1 := ⟨x.toNat - 1, by omega⟩
      have hkn : k < n := by omega
      have hko2 : (k : Int) < (n : Int) := by omega
      obtain ⟨o, ho⟩ : ∃ o, os[k]? = some o := ⟨os[k]'(by rw [Hn.out]; exact hkn), by simp [Hn.out, hkn]⟩
      obtain ⟨b, off, ai, ci, hoa, hbl, hoc, hse⟩ := HS0.out k o ho
      subst hoa
      have oc := Ob.cells9 hoc
      have o0 := oc.1
      have o5 := oc.2.2.2.2.2.1
      have YES := hide (fun h1 h2 => GV.out.1 k o rfl ho h1 h2)
      have NOT := hide (fun h1 => GV.out.2.1 k o rfl ho h1)
      obtain ⟨us, li, fi, ta, ag, ge, lk, nx, sl⟩ := o
      simp only at o0 o5 YES NOT
      have t1 : decide ((k : Int) + 1 < 1) = false := by simp; omega
      have t2 : decide ((n : Int) < (k : Int) + 1) = false := by simp; omega
      have l3 : IntKind.i64.wrap (k : Int) = (k : Int) := by rw [IntKind.wrap_i64]; omega
      clear oc hoc hse ho GV
      cases us
      · have NO := hide (NOT.out (by simp))
        clear YES NOT
        go_enter Try.func43, Try.ntmps43
        go_upto_region 2 with (go_at_call 44; refine (IX.out _).mono ?_; rintro e w1 ⟨rfl, hq⟩; obtain rfl := hq.symm; clear hq)
        go_quiet ((go_at_call 61; exact Calls.quiet_of_same (GX.out _)))
        go_wp2_with fail
        go_ret
        exact ⟨ret_int (by rw [NO.out]; rfl), below_drewN HB0.out _⟩
      · by_cases hg : ge = y
        · have hg2 : (ge != y) = false := by simp [hg]
          have YS := hide (YES.out rfl hg)
          clear YES NOT hg
          go_enter Try.func43, Try.ntmps43
          go_upto_region 2 with (go_at_call 44; refine (IX.out _).mono ?_; rintro e w1 ⟨rfl, hq⟩; obtain rfl := hq.symm; clear hq)
          go_quiet ((go_at_call 61; exact Calls.quiet_of_same (GX.out _)))
          go_wp2_with fail
          go_ret
          exact ⟨ret_int (by rw [YS.out]; simp), below_drewN HB0.out _⟩
        · have hg2 : (ge != y) = true := by simp [hg]
          have NO := hide (NOT.out (fun _ => hg))
          clear YES NOT hg
          go_enter Try.func43, Try.ntmps43
          go_upto_region 2 with (go_at_call 44; refine (IX.out _).mono ?_; rintro e w1 ⟨rfl, hq⟩; obtain rfl := hq.symm; clear hq)
          go_quiet ((go_at_call 61; exact Calls.quiet_of_same (GX.out _)))
          go_wp2_with fail
          go_ret
          exact ⟨ret_int (by rw [NO.out]; rfl), below_drewN HB0.out _⟩
    · have NO := hide (GV.out.2.2.2 (by omega))
      have t1 : decide (x < 1) = false := by simp; omega
      have t2 : decide ((n : Int) < x) = true := by simp; omega
      clear GV
      go_enter Try.func43, Try.ntmps43
      go_upto_region 2 with (go_at_call 44; refine (IX.out _).mono ?_; rintro e w1 ⟨rfl, hq⟩; obtain rfl := hq.symm; clear hq)
      go_quiet ((go_at_call 61; exact Calls.quiet_of_same (GX.out _)))
      go_wp2_with fail
      go_ret
      exact ⟨ret_int (by rw [NO.out]; rfl), below_drewN HB0.out _⟩
  · have NO := hide (GV.out.2.2.1 (by omega))
    have t1 : decide (x < 1) = true := by simp; omega
    clear GV
    go_enter Try.func43, Try.ntmps43
    go_upto_region 2 with (go_at_call 44; refine (IX.out _).mono ?_; rintro e w1 ⟨rfl, hq⟩; obtain rfl := hq.symm; clear hq)
    go_quiet ((go_at_call 61; exact Calls.quiet_of_same (GX.out _)))
    go_wp2_with fail
    go_ret
    exact ⟨ret_int (by rw [NO.out]; rfl), below_drewN HB0.out _⟩

/-- The hues of the first n, as the document lists them. -/
def hs (os : List Ob) (ws : List Int) : Nat → List Int
  | 0 => []
  | n + 1 => hs os ws n ++ [col os ws n]
theorem hs_len (os : List Ob) (ws : List Int) : ∀ n, (hs os ws n).length = n
  | 0 => rfl
  | n + 1 => by simp [hs, hs_len os ws n]
theorem hs_get (os : List Ob) (ws : List Int) : ∀ {n i : Nat}, i < n → (hs os ws n)[i]? = some (col os ws i)
  | n + 1, i, h => by
    by_cases e : i = n
    · subst e; simp only [hs]; rw [List.getElem?_append_right (by rw [hs_len]; exact Nat.le_refl _), hs_len]; simp
    · simp only [hs]; rw [List.getElem?_append_left (by rw [hs_len]; omega)]; exact hs_get os ws (by omega)
end Hu
end Go.Proofs.Ytcjlbecmghaalaa
