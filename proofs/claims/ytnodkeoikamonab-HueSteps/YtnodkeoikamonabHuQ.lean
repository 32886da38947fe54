/-
  Hue: the law's own white, without, changed
-/
import Derived.Test.YtnodkeoikamonabHuS
import Derived.Test.YtnodkeoikamonabHuK
namespace Go.Proofs.Ytnodkeoikamonab
open Go.RowKit
set_option linter.unusedVariables false
set_option linter.unusedSimpArgs false
set_option linter.unnecessarySimpa false
set_option maxRecDepth 20000
namespace Hu
open Gr
theorem wh_val {os : List Ob} {ws : List Int} {u : Int} {x y : Int} (hx : u % 4294967296 = x) (hy : u / 4294967296 = y) : (∀ k o, x = (k : Nat) + 1 → os[k]? = some o → (wh os ws u != 0) = (o.us && !o.li && (o.ge == y))) ∧ (x < 1 → (wh os ws u != 0) = false) ∧ ((os.length : Int) < x → (wh os ws u != 0) = false) := by
  have GV := gd_val (os := os) hx hy
  have z : gd os u = 0 → (wh os ws u != 0) = false := fun h => by
    unfold wh; rw [if_neg (fun hh => hh.1 h)]; rfl
  refine ⟨?_, fun h => z (GV.2.2.1 h), fun h => z (GV.2.2.2 h)⟩
  intro k o hk ho
  by_cases h1 : o.us = true
  · by_cases h2 : o.ge = y
    · have hg := GV.1 k o hk ho h1 h2
      cases hl : o.li with
      | false =>
        have hc : col os ws k = 1 := by
          rcases col_cases ws ho with ⟨h3, _⟩ | ⟨_, _, h3⟩ | ⟨_, h3, _⟩ | ⟨_, h3, _⟩
          · rw [h1] at h3; cases h3
          · exact h3
          · rw [hl] at h3; cases h3
          · rw [hl] at h3; cases h3
        have : wh os ws u = k + 1 := by unfold wh; rw [hg, if_pos ⟨by omega, by simpa using hc⟩]
        rw [this, h1, h2]; simp
      | true =>
        have hc : col os ws k ≠ 1 := by
          rcases col_cases ws ho with ⟨h3, _⟩ | ⟨_, h3, _⟩ | ⟨_, _, _, h3⟩ | ⟨_, _, _, h3⟩
          · rw [h1] at h3; cases h3
          · rw [hl] at h3; cases h3
          · omega
          · omega
        have : wh os ws u = 0 := by unfold wh; rw [hg, if_neg (fun hh => hc (by simpa using hh.2))]
        rw [this, h1]; simp
    · rw [z (GV.2.1 k o hk ho (fun _ => h2))]
      have : (o.ge == y) = false := by simp [h2]
      rw [this]; simp
  · have h1' : o.us = false := by simpa using h1
    rw [z (GV.2.1 k o hk ho (fun h => absurd h h1)), h1']; simp

set_option maxHeartbeats 4000000 in
theorem white_ok {c : Vc} {a : Av} {w : World} (hS : Sob w a.oa c.os) (hB : Bd c.os) (ws : List Int) {u : Int} (h0 : 0 ≤ u) (h1 : u < 18446744073709551616) : Calls Try.prog 24 #[vl c a, .int .u64 u] w fun e w' => e = .returned (.bool (wh c.os ws u != 0)) ∧ Below w.heap.size w w' := by
  obtain ⟨W0, hW0, B0, R0⟩ := vbox w c a
  have c6 := (vcells R0).2.2.2.2.2.2.1
  have HB0 := hide B0
  have HS0 := hide (hS.below B0)
  have hno := hB.no
  clear hS hB B0 R0
  obtain ⟨ph, co, ro, aa, na, ca, ra, cr, wa, nw, cw, oa, cb, fa, nf, cf, ga, ng, cg, qa, cq, k0, k1, k2, k3⟩ := a
  simp only [vl]
  simp only at hW0 c6 HS0
  obtain ⟨x, hx⟩ : ∃ x, u % 4294967296 = x := ⟨_, rfl⟩
  obtain ⟨y, hy⟩ : ∃ y, u / 4294967296 = y := ⟨_, rfl⟩
  have WV := hide (wh_val (os := c.os) (ws := ws) hx hy)
  have IX := hide (fun w1 => index_any u h0 h1 w1)
  have GX := hide (fun w1 => gen_any u h0 h1 w1)
  rw [hx] at IX
  rw [hy] at GX
  have hx0 : 0 ≤ x ∧ x < 4294967296 := by omega
  clear hx hy h0 h1
  obtain ⟨os, hos⟩ : ∃ os, c.os = os := ⟨_, rfl⟩
  rw [hos] at HS0 WV hno ⊢
  simp only [hos] at hW0 c6 ⊢
  obtain ⟨n, hn⟩ : ∃ n, os.length = n := ⟨_, rfl⟩
  rw [hn] at hW0 c6 hno WV ⊢
  have Hn := hide hn
  clear hos hn
  obtain ⟨v, hv⟩ : ∃ v, (wh os ws u != 0) = v := ⟨_, rfl⟩
  rw [hv] at WV ⊢
  clear hv
  by_cases q1 : 1 ≤ x
  · by_cases q2 : x ≤ (n : Int)
    · obtain ⟨k, rfl⟩ : ∃ k : Nat, x = (k : Int) + 1 := ⟨x.toNat - 1, by omega⟩
      have hkn : k < n := by omega
      have hko2 : (k : Int) < (n : Int) := by omega
      obtain ⟨o, ho⟩ : ∃ o, os[k]? = some o := ⟨os[k]'(by rw [Hn.out]; exact hkn), by simp [Hn.out, hkn]⟩
      obtain ⟨b, off, ai, ci, hoa, hbl, hoc, hse⟩ := HS0.out k o ho
      subst hoa
      have oc := Ob.cells9 hoc
      have o0 := oc.1
      have o1 := oc.2.1
      have o5 := oc.2.2.2.2.2.1
      have VV := hide (WV.out.1 k o rfl ho)
      obtain ⟨us, li, fi, ta, ag, ge, lk, nx, sl⟩ := o
      simp only at o0 o1 o5 VV
      have t1 : decide ((1 : Int) ≤ (k : Int) + 1) = true := by simp; omega
      have t2 : decide ((k : Int) + 1 ≤ (n : Int)) = true := by simp; omega
      have l3 : IntKind.i64.wrap (k : Int) = (k : Int) := by rw [IntKind.wrap_i64]; omega
      clear oc hoc hse ho WV
      cases us
      · have VF := hide (show v = false by rw [VV.out]; rfl)
        clear VV
        go_enter Try.func24, Try.ntmps24
        go_upto_region 2 with (go_at_call 50; refine (IX.out _).mono ?_; rintro e w1 ⟨rfl, hq⟩; obtain rfl := hq.symm; clear hq)
        go_quiet ((go_at_call 55; exact Calls.quiet_of_same (GX.out _)))
        go_wp2_with fail
        go_ret
        exact ⟨by rw [VF.out]; rfl, below_drewN HB0.out _⟩
      · cases li
        · by_cases hg : ge = y
          · have hg2 : (ge == y) = true := by simp [hg]
            have VF := hide (show v = true by rw [VV.out, hg2]; rfl)
            clear VV hg
            go_enter Try.func24, Try.ntmps24
            go_upto_region 2 with (go_at_call 50; refine (IX.out _).mono ?_; rintro e w1 ⟨rfl, hq⟩; obtain rfl := hq.symm; clear hq)
            go_quiet ((go_at_call 55; exact Calls.quiet_of_same (GX.out _)))
            go_wp2_with fail
            go_ret
            exact ⟨by rw [VF.out]; rfl, below_drewN HB0.out _⟩
          · have hg2 : (ge == y) = false := by simp [hg]
            have VF := hide (show v = false by rw [VV.out, hg2]; rfl)
            clear VV hg
            go_enter Try.func24, Try.ntmps24
            go_upto_region 2 with (go_at_call 50; refine (IX.out _).mono ?_; rintro e w1 ⟨rfl, hq⟩; obtain rfl := hq.symm; clear hq)
            go_quiet ((go_at_call 55; exact Calls.quiet_of_same (GX.out _)))
            go_wp2_with fail
            go_ret
            exact ⟨by rw [VF.out]; rfl, below_drewN HB0.out _⟩
        · have VF := hide (show v = false by rw [VV.out]; rfl)
          clear VV
          go_enter Try.func24, Try.ntmps24
          go_upto_region 2 with (go_at_call 50; refine (IX.out _).mono ?_; rintro e w1 ⟨rfl, hq⟩; obtain rfl := hq.symm; clear hq)
          go_quiet ((go_at_call 55; exact Calls.quiet_of_same (GX.out _)))
          go_wp2_with fail
          go_ret
          exact ⟨by rw [VF.out]; rfl, below_drewN HB0.out _⟩
    · have VF := hide (WV.out.2.2 (by omega))
      have t1 : decide ((1 : Int) ≤ x) = true := by simp; omega
      have t2 : decide (x ≤ (n : Int)) = false := by simp; omega
      clear WV
      go_enter Try.func24, Try.ntmps24
      go_upto_region 2 with (go_at_call 50; refine (IX.out _).mono ?_; rintro e w1 ⟨rfl, hq⟩; obtain rfl := hq.symm; clear hq)
      go_quiet ((go_at_call 55; exact Calls.quiet_of_same (GX.out _)))
      go_wp2_with fail
      go_ret
      exact ⟨by rw [VF.out]; rfl, below_drewN HB0.out _⟩
  · have VF := hide (WV.out.2.1 (by omega))
    have t1 : decide ((1 : Int) ≤ x) = false := by simp; omega
    clear WV
    go_enter Try.func24, Try.ntmps24
    go_upto_region 2 with (go_at_call 50; refine (IX.out _).mono ?_; rintro e w1 ⟨rfl, hq⟩; obtain rfl := hq.symm; clear hq)
    go_quiet ((go_at_call 55; exact Calls.quiet_of_same (GX.out _)))
    go_wp2_with fail
    go_ret
    exact ⟨by rw [VF.out]; rfl, below_drewN HB0.out _⟩

/-- A list without a number. -/
def wo (l : List Int) (x : Int) : List Int := l.filter (fun y => y != x)
set_option maxHeartbeats 2000000 in
theorem without_ok {w : World} {la : Option Addr} {lc : Nat} {l : List Int} (hL : SeesN w la l) (hl : l.length ≤ 17592186044416) (x : Int) : Calls Try.prog 25 #[.slice la l.length lc, .int .i64 x] w fun e w' => Nt w w' e (wo l x) := by
  have HL := hide hL
  obtain ⟨m, hm⟩ : ∃ m, l.length = m := ⟨_, rfl⟩
  rw [hm] at hl ⊢
  have Hm := hide hm
  obtain ⟨iI, hiI, hzI, hsI, hyI⟩ := infoI
  obtain ⟨z, hz⟩ : ∃ z, w.heap.size = z := ⟨_, rfl⟩
  have Hz := hide hz
  clear hL hm hz
  go_enter Try.func25, Try.ntmps25
  go_wp2_with fail
  go_loopw [5, 6] (fun v i wr => ∃ (k : Nat), k ≤ m ∧ i = .int .i64 k ∧ Hid (wr.ownsRow z 3 1 v (wo (l.take k) x).length (ncs (wo (l.take k) x))) ∧ Hid (Below z w wr)) (fun _ i _ => m - (intOf i).toNat)
  case atStart => exact ⟨0, Nat.zero_le _, rfl, ⟨rfl, .inl ⟨rfl, rfl⟩⟩, Below.refl _ _⟩
  case round =>
    obtain ⟨k, hk, rfl, HO, HB⟩ := hrel
    obtain ⟨ra, cp, rfl⟩ := own_slice HO.out
    have hzw : z ≤ wr.heap.size := by have := HB.out.size; rw [Hz.out] at this; exact this
    by_cases hlt : k < m
    · have hkn : (k : Int) < (m : Int) := by omega
      obtain ⟨y, hy⟩ : ∃ y, l[k]? = some y := ⟨l[k]'(by rw [Hm.out]; exact hlt), by simp [Hm.out, hlt]⟩
      obtain ⟨b2, off2, hla, hbl2, hcc2⟩ := HL.out.below (show Below w.heap.size w wr by rw [Hz.out]; exact HB.out) k y hy
      subst hla
      have ST := hide (show wo (l.take (k + 1)) x = wo (l.take k) x ++ (if (y != x) = true then [y] else []) by unfold wo; exact filt_step hy)
      have LN : (wo (l.take k) x).length ≤ k := Nat.le_trans (List.length_filter_le _ _) (by simp; omega)
      obtain ⟨r, hr⟩ : ∃ r, wo (l.take k) x = r := ⟨_, rfl⟩
      rw [hr] at HO ST LN ⊢
      obtain ⟨ln, hln⟩ : ∃ ln, r.length = ln := ⟨_, rfl⟩
      rw [hln] at HO LN ⊢
      have HLn := hide hln
      clear hr hln hy
      by_cases h1 : y = x
      · have h1b : (y != x) = false := by simp [h1]
        have ST2 := hide (show wo (l.take (k + 1)) x = r by rw [ST.out, h1b]; simp)
        clear h1 ST
        go_wp2_with fail
        go_roundw
        case rel =>
          refine ⟨k + 1, by omega, by go_num, ?_, HB.out⟩
          show World.ownsRow _ _ _ _ _ _ _
          rw [ST2.out, HLn.out]
          exact HO.out
        case measure => simp [intOf]; omega
      · have h1b : (y != x) = true := by simp [h1]
        have ST2 := hide (show wo (l.take (k + 1)) x = r ++ [y] by rw [ST.out, h1b]; simp)
        clear h1 ST
        have O3 := hide (show (wr.alloc (.cells #[.int .i64 y] 3)).ownsRow z 3 1 (.slice ra ln cp) ln (ncs r) from owns_on HO.out ((Below.refl _ wr).alloc (Nat.le_refl _) _))
        go_wp2_with (at_builtin; refine wpList_append_own_at _ rfl (.tmp 19) (.tmp 24) 26 rfl z 3 iI (.int .i64 0) 1 8 Try.underlying26 hiI hzI hsI hyI rfl (by decide) (.slice ra ln cp) ln (ncs r) rfl O3.out ⟨wr.heap.size, 0, none⟩ 1 1 (ncs [y]) rfl rfl (fun j v hj => by rw [Go.WideShapes.add_plain]; have hj1 : j < 1 := (by have := (List.getElem?_eq_some_iff.1 hj).1; simpa [ncs] using this); (obtain rfl : j = 0 := (by omega)); simp [ncs] at hj; rw [← hj]; simp) (ncs_one _) (by unfold maxLen; omega) (by omega) (by simp; omega) ?_; intro v2 w2 hown hgr _ _; obtain ⟨la3, cp3, rfl⟩ := own_slice hown; have HO4 := hide hown; have HB4 := hide (Gr.below_grown (HB.out.alloc hzw (.cells #[.int .i64 y] 3)) O3.out hgr (by simp; omega)); clear hown hgr)
        go_roundw
        case rel =>
          refine ⟨k + 1, by omega, by go_num, ?_, HB4.out⟩
          show World.ownsRow _ _ _ _ _ _ _
          rw [ST2.out, ncs_app, List.length_append, HLn.out]
          exact HO4.out
        case measure => simp [intOf]; omega
    · have hkn : ¬ (k : Int) < (m : Int) := by omega
      have e0 : l.take k = l := List.take_of_length_le (by rw [Hm.out]; omega)
      rw [e0] at HO ⊢
      go_wp2_with fail
      go_ret
      exact ⟨_, _, rfl, by rw [Hz.out]; exact HO.out, by rw [Hz.out]; exact HB.out⟩
end Hu
end Go.Proofs.Ytnodkeoikamonab
