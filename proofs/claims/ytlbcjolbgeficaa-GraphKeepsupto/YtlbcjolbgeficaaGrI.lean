/-
  Graph: Way
-/
import Derived.Test.YtlbcjolbgeficaaGrG
import Derived.Test.YtlbcjolbgeficaaGrJ
namespace Go.Proofs.Ytlbcjolbgeficaa
open Go.RowKit
set_option linter.unusedVariables false
set_option linter.unusedSimpArgs false
set_option linter.unnecessarySimpa false
set_option maxRecDepth 20000
namespace Gr
open Go.Sort in
theorem rev_own {w : World} {base n cap : Nat} {la : Option Addr} {ln : List Int} (h : w.ownsRow base 3 1 (.slice la n cap) n (ncs ln)) (hn : n ≤ 4611686018427387904) :
    Calls Try.prog 25 #[.slice la n cap] w fun x w' => x = .returned (.tuple #[]) ∧ Hid (w'.ownsRow base 3 1 (.slice la n cap) n (ncs ln.reverse)) ∧ w.grownBy w' (Value.slice la n cap).ownBlock := by
  have hl : ln.length = n := by simpa [ncs] using h.1
  have h2 := h
  rcases h.2 with ⟨e0, h0⟩ | ⟨g, cap', cur, e0, hb, hg, hn', hm, hs, ht⟩
  · injection e0 with e1 _ e3
    subst e1 e3 h0
    refine (slices_Reverse_int_empty none 0 w).mono ?_
    rintro x w' ⟨rfl, rfl⟩
    have : ln = [] := List.length_eq_zero_iff.1 hl
    subst this
    exact ⟨rfl, h2, grown_refl _ _⟩
  · injection e0 with e1 _ e3
    subst e1; subst e3
    obtain ⟨g', cap2, hv, _, hlt, _, _, _, hH⟩ := Lib.holds_of_ownsRow (enc := Value.int .i64) (zs := ln) h (by simp)
    injection hv with hv1 _ _
    injection hv1 with hv1
    injection hv1 with hv1
    subst hv1
    have key := slices_Reverse_int g 0 cap ln w hH (by omega)
    rw [hl] at key
    refine key.mono ?_
    rintro x w' ⟨rfl, q, rfl⟩
    have hown := own_sorted (q := q) (e := 0) (ys := ln.reverse) (os := #[]) h (by simp; omega)
    have hgr := grownBy_sorted (w := w) (g := g) (n := q) (e := 0) (os := #[]) ln.reverse.toArray
    rw [grow_empty] at hown hgr
    exact ⟨rfl, (by simpa using hown : World.ownsRow _ _ _ _ _ _ _), hgr⟩
set_option maxHeartbeats 4000000 in
theorem way_ok {c : Vc} {a : Av} {w : World} (hS : Shows w c a) (hB : Bv c) (tg : Int) : Calls Try.prog 11 #[vl c a, .int .i64 tg] w fun e w' => ∃ l, Wl c tg l ∧ Nt w w' e l := by
  obtain ⟨m, hm⟩ : ∃ m, (rts c).length = m := ⟨_, rfl⟩
  have Hm := hide hm
  obtain ⟨W0, hW0, B0, R0⟩ := vbox w c a
  have VF := hide (fun (wx : World) (hb : Below W0.heap.size W0 wx) => vcells (row_on R0 hb))
  have HB0 := hide B0
  have HS0 := hide (hS.below B0)
  have l0 : w.heap.size < W0.heap.size := R0.lt
  have HBv := hide hB
  have RO := hide (fun (w1 : World) (h1 : Shows w1 c a) => roots_ok h1 hB)
  have WA := hide (fun (w1 : World) (h1 : Shows w1 c a) (ao : Option Addr) (cp : Nat) (h2 : SeesU w1 ao (rts c)) => walked_ok (cb := a.cb) (fc := cp) h1.ob h2 hB.bd (rts_wd hB) (by have := rts_len hB; omega))
  have IO := hide (fun (k : Int) (w1 : World) => isObject_ok (c := c) (a := a) (w := w1) hB.bd.no k)
  have hno := hB.bd.no
  clear hS hB B0 R0
  obtain ⟨ph, co, ro, aa, na, ca, ra, cr, wa, nw, cw, oa, cb, fa, nf, cf, ga, ng, cg, qa, cq, k0, k1, k2, k3⟩ := a
  simp only [vl] at RO WA ⊢
  simp only at hW0 VF RO WA IO
  obtain ⟨n, hn⟩ : ∃ n, c.os.length = n := ⟨_, rfl⟩
  obtain ⟨nr, hnre⟩ : ∃ nr, c.rs.length = nr := ⟨_, rfl⟩
  obtain ⟨nq, hnqe⟩ : ∃ nq, c.qu.length = nq := ⟨_, rfl⟩
  simp only [hn, hnre, hnqe] at hW0 VF RO WA IO ⊢
  rw [hn] at hno
  have Hn := hide hn
  have Hnr := hide hnre
  have Hnq := hide hnqe
  clear hn hnre hnqe
  have D0 : Below W0.heap.size W0 W0.drew := ⟨rfl, rfl, rfl, Nat.le_refl _, fun _ _ => rfl⟩
  rw [hm] at WA
  clear hm
  obtain ⟨iI, hiI, hzI, hsI, hyI⟩ := infoI
  have K0 := VF.out W0.drew D0
  have PST := hide (fun (l : List Int) (h : Wl c tg l) (w' : World) (e : Ending) (h2 : Nt w w' e l) => (⟨l, h, h2⟩ : ∃ l, Wl c tg l ∧ Nt w w' e l))
  refine (show Calls Try.prog _ _ _ (fun e w' => Hid (∃ l, Wl c tg l ∧ Nt w w' e l)) from ?_)
  go_enter Try.func11, Try.ntmps11
  go_upto_region 1 with (fail)
  go_region_held (fun w' => w'.cell? ⟨w.heap.size, 0, none⟩ = some (.int .i64 ph) ∧ w'.cell? ⟨w.heap.size, 1, none⟩ = some (.int .i64 co) ∧ w'.cell? ⟨w.heap.size, 2, none⟩ = some (.int .u64 ro) ∧ w'.cell? ⟨w.heap.size, 3, none⟩ = some (.slice aa na ca) ∧ w'.cell? ⟨w.heap.size, 4, none⟩ = some (.slice ra nr cr) ∧ w'.cell? ⟨w.heap.size, 5, none⟩ = some (.slice wa nw cw) ∧ w'.cell? ⟨w.heap.size, 6, none⟩ = some (.slice oa n cb) ∧ w'.cell? ⟨w.heap.size, 7, none⟩ = some (.slice fa nf cf) ∧ w'.cell? ⟨w.heap.size, 8, none⟩ = some (.slice ga ng cg) ∧ w'.cell? ⟨w.heap.size, 9, none⟩ = some (.slice qa nq cq) ∧ w'.cell? ⟨w.heap.size, 10, none⟩ = some (.int .u64 k0) ∧ w'.cell? ⟨w.heap.size, 11, none⟩ = some (.int .u64 k1) ∧ w'.cell? ⟨w.heap.size, 12, none⟩ = some (.int .u64 k2) ∧ w'.cell? ⟨w.heap.size, 13, none⟩ = some (.int .u64 k3)) (first | exact K0 | exact K2 | exact K1) (first
    | (go_at_call 8; refine (RO.out _ (by exact HS0.out.below D0)).mono ?_; rintro e w1 ⟨ao, cp, rfl, ho, hb⟩; rw [Hm.out] at ho; (try rw [Hm.out]); have HO := hide ho; have HB := hide (D0.trans hb); have K1 := VF.out w1 HB.out; have WX := hide (WA.out w1 (HS0.out.below HB.out) ao cp (own_seesU ho)); clear ho hb)
    | (go_at_call 22; refine WX.out.mono ?_; rintro e w2 ⟨s, g, rfl, hg, hG, hr, hb⟩; rw [Hn.out] at hr; (try rw [Hn.out]); have HG := hide hG; have HR := hide hr; have HB2 := hide hb; have K2 := VF.out w2 (HB.out.trans (HB2.out.mono HB.out.size)); clear hr hb hG))
  have BW := hide (show Below W0.heap.size W0 w2 from HB.out.trans (HB2.out.mono HB.out.size))
  have BW0 := hide (show Below w.heap.size w w2 from HB0.out.trans (BW.out.mono HB0.out.size))
  have hgz : g < w2.heap.size := HR.out.lt
  clear hW0 K0 K1 RO WA WX
  obtain ⟨c0, c1, c2, c3, c4, c5, c6, c7, c8, c9, c10, c11, c12, c13⟩ := VF.out w2 BW.out
  have IX := hide (IO.out tg w2)
  clear IO K2
  by_cases hto : 1 ≤ tg ∧ tg ≤ (n : Int)
  · have IY := hide (IX.out.mono (R' := fun e w' => e = .returned (.bool true) ∧ Below w2.heap.size w2 w') (by rintro e w' ⟨ht, hb⟩; rcases ht.get with ⟨_, h2⟩ | ⟨h1, _⟩; exact ⟨h2, hb⟩; exact absurd hto h1))
    obtain ⟨q, rfl⟩ : ∃ q : Nat, tg = (q : Int) + 1 := ⟨tg.toNat - 1, by omega⟩
    have hqn : q < n := by omega
    have hqn2 : (q : Int) < (n : Int) := by omega
    have hqr : ∀ w3 : World, Below w2.heap.size w2 w3 → w3.cell? ⟨g, q, none⟩ = some (.int .i64 (s.A q)) := fun w3 hb => (row_on HR.out hb).cell hqn
    have HQR := hide hqr
    clear hqr hto IX
    by_cases hA : s.A q = 0
    · have hA2 : (s.A q == 0) = true := by simp [hA]
      have NIL := hide (wl_none HG.out hA)
      go_wp2_with (go_at_call 23; refine IY.out.mono ?_; rintro e w5 ⟨rfl, hb5⟩; have cq' := HQR.out w5 hb5; have HB5 := hide hb5; clear hb5)
      go_ret
      exact PST.out [] NIL.out _ _ ⟨_, _, rfl, ⟨rfl, .inl ⟨rfl, rfl⟩⟩, BW0.out.trans (HB5.out.mono BW0.out.size)⟩
    · have hA2 : (s.A q == 0) = false := by simp [hA]
      obtain ⟨full, hfull⟩ := ch_all HG.out hA
      have HF := hide hfull
      have FL := hide (ch_len HG.out hfull)
      have WLF := hide (wl_some HG.out hA hfull)
      clear hfull
      go_upto_region 6 with (go_at_call 23; refine IY.out.mono ?_; rintro e w5 ⟨rfl, hb5⟩; have cq' := HQR.out w5 hb5; have HB5 := hide hb5; clear hb5)
      clear c0 c1 c2 c3 c4 c5 c6 c7 c8 c9 c10 c11 c12 c13
      obtain ⟨z, hz⟩ : ∃ z, w5.heap.size = z := ⟨_, rfl⟩
      have Hz := hide hz
      have HR5 := hide (row_on HR.out HB5.out)
      have hgz5 : g < z := by rw [← hz]; exact HR5.out.lt
      clear hz cq'
      go_loopw [6, 7] (fun v i wr => ∃ (out rest : List Int) (cur : Int), i = .int .i64 cur ∧ Hid (wr.ownsRow z 3 1 v out.length (ncs out)) ∧ Hid (Ch s cur rest) ∧ Hid (out ++ rest = full) ∧ Hid (Below z w5 wr)) (fun v _ _ => full.length - lenOf v)
      case atStart => exact ⟨[], full, _, rfl, ⟨rfl, .inl ⟨rfl, rfl⟩⟩, HF.out, (rfl : [] ++ full = full), by show Below z w5 w5; exact Below.refl _ _⟩
      case round =>
        obtain ⟨out, rest, cur, rfl, HO, HC, HE, HBr⟩ := hrel
        obtain ⟨la, cp, rfl⟩ := own_slice HO.out
        have hzw : z ≤ wr.heap.size := by have := HBr.out.size; rw [Hz.out] at this; exact this
        rcases HC.out.cases with ⟨hc, hrst⟩ | ⟨hc, rest', hrst, hch, p, hp, hpn⟩
        · subst hc
          have HE2 := hide (show out = full by rw [← HE.out, hrst]; simp)
          have HFL := FL.out
          rw [Hn.out] at HFL
          have HLL := hide (show out.length = full.length by rw [HE2.out])
          rw [HE2.out] at HO
          rw [HLL.out]
          obtain ⟨fl, hfl⟩ : ∃ fl, full.length = fl := ⟨_, rfl⟩
          rw [hfl] at HO HFL ⊢
          have Hfl := hide hfl
          have RV := hide (rev_own HO.out (by omega))
          clear hfl hrst HLL
          go_wp2_with (go_at_call 25; refine RV.out.mono ?_; rintro e w6 ⟨rfl, ho, hg6⟩; have HO6 := hide ho.out; have HG6 := hide hg6; clear ho hg6)
          go_ret
          have hlt6 := HBr.out
          have B6 : Below z w5 w6 := below_grown HBr.out HO.out HG6.out hzw
          have h5 := Nat.le_trans BW0.out.size HB5.out.size
          refine PST.out full.reverse WLF.out _ _ ⟨la, cp, ?_, ?_, ?_⟩
          · rw [List.length_reverse, Hfl.out]; rfl
          · rw [List.length_reverse, Hfl.out]
            exact owns_low HO6.out (by rw [← Hz.out]; exact h5)
          · exact (BW0.out.trans (HB5.out.mono BW0.out.size)).trans (B6.mono (by rw [← Hz.out]; exact h5))
        · subst hp
          have LN : out.length + 1 ≤ full.length := by rw [← HE.out, hrst]; simp
          have HFL := FL.out
          rw [Hn.out] at HFL
          have HE3 := hide (show (out ++ [(p : Int) + 1]) ++ rest' = full by rw [← HE.out, hrst]; simp)
          have hpl : p < n := by
            have h1 := (HG.out.me ((p : Int) + 1) (by omega)).2 (by rw [a_at]; exact hpn)
            have h2 := HG.out.rng _ h1
            rw [Hn.out] at h2
            omega
          have hpl2 : (p : Int) < (n : Int) := by omega
          have HCH := hide (show Ch s (s.A p) rest' by rw [← a_at]; exact hch)
          obtain ⟨ln, hln⟩ : ∃ ln, out.length = ln := ⟨_, rfl⟩
          rw [hln] at HO LN ⊢
          have HLn := hide hln
          have nc : ((p : Int) + 1 != -1) = true := by simp; omega
          have O3 := hide (show (wr.alloc (.cells #[.int .i64 ((p : Int) + 1)] 3)).ownsRow z 3 1 (.slice la ln cp) ln (ncs out) from owns_on HO.out ((Below.refl _ wr).alloc (Nat.le_refl _) _))
          clear hln hch hpn hrst hc
          go_wp2_with (at_builtin; refine wpList_append_own_at _ rfl (.tmp 34) (.tmp 36) 26 rfl z 3 iI (.int .i64 0) 1 8 Try.underlying26 hiI hzI hsI hyI rfl (by decide) (.slice la ln cp) ln (ncs out) rfl O3.out ⟨wr.heap.size, 0, none⟩ 1 1 (ncs [(p : Int) + 1]) rfl rfl (fun j v hj => by rw [Go.WideShapes.add_plain]; have hj1 : j < 1 := (by have := (List.getElem?_eq_some_iff.1 hj).1; simpa [ncs] using this); (obtain rfl : j = 0 := (by omega)); simp [ncs] at hj; rw [← hj]; simp) (ncs_one _) (by unfold maxLen; omega) (by omega) (by simp; omega) ?_; intro v2 w2 hown hgr _ _; obtain ⟨la3, cp3, rfl⟩ := own_slice hown; have HO4 := hide hown; have HB4 := hide (below_grown (HBr.out.alloc hzw (.cells #[.int .i64 ((p : Int) + 1)] 3)) O3.out hgr (by simp; omega)); have cg4 := (HR5.out.of_block (HB4.out.block g hgz5)).cell hpl; clear hown hgr)
          go_roundw
          case rel =>
            refine ⟨out ++ [(p : Int) + 1], rest', s.A p, rfl, ?_, HCH.out, HE3.out, HB4.out⟩
            show World.ownsRow _ _ _ _ _ _ _
            rw [ncs_app, List.length_append, HLn.out]
            exact HO4.out
          case measure => simp [lenOf]; omega
  · have IY := hide (IX.out.mono (R' := fun e w' => e = .returned (.bool false) ∧ Below w2.heap.size w2 w') (by rintro e w' ⟨ht, hb⟩; rcases ht.get with ⟨h1, _⟩ | ⟨_, h2⟩; exact absurd h1 hto; exact ⟨h2, hb⟩))
    have NIL := hide (wl_out (c := c) (tg := tg) (by rw [Hn.out]; exact hto))
    clear hto IX
    go_wp2_with (go_at_call 23; refine IY.out.mono ?_; rintro e w5 ⟨rfl, hb5⟩; have HB5 := hide hb5; clear hb5)
    go_ret
    exact PST.out [] NIL.out _ _ ⟨_, _, rfl, ⟨rfl, .inl ⟨rfl, rfl⟩⟩, BW0.out.trans (HB5.out.mono BW0.out.size)⟩
end Gr
end Go.Proofs.Ytlbcjolbgeficaa
