/-
  Graph: Roots
-/
import Derived.Test.YtlbcjolbgeficaaGrE
namespace Go.Proofs.Ytlbcjolbgeficaa
open Go.RowKit
set_option linter.unusedVariables false
set_option linter.unusedSimpArgs false
set_option linter.unnecessarySimpa false
set_option maxRecDepth 20000
namespace Gr
def nz (h : Int) : Bool := h != 0
def isO (n : Nat) (k : Int) : Bool := decide (1 ≤ k ∧ k ≤ (n : Int))
/-- An object's own handle. -/
def hof (os : List Ob) (k : Int) : Int := match os[k.toNat - 1]? with | some o => hd k o.ge | none => 0
theorem hof_at {os : List Ob} {q : Nat} {o : Ob} (h : os[q]? = some o) : hof os ((q : Int) + 1) = hd ((q : Int) + 1) o.ge := by
  have e : ((q : Int) + 1).toNat - 1 = q := by omega
  simp only [hof, e, h]
/-- All handles from which one starts. -/
def rts (c : Vc) : List Int := c.rs.flatten.filter nz ++ (c.qu.filter (isO c.os.length)).map (hof c.os)
/-- Words that a call tells in memory of its own. -/
def Ut (w w' : World) (e : Ending) (l : List Int) : Prop := ∃ ao cap, e = .returned (.slice ao l.length cap) ∧ w'.ownsRow w.heap.size 22 1 (.slice ao l.length cap) l.length (ucs l) ∧ Below w.heap.size w w'
def Nt (w w' : World) (e : Ending) (l : List Int) : Prop := ∃ ao cap, e = .returned (.slice ao l.length cap) ∧ w'.ownsRow w.heap.size 3 1 (.slice ao l.length cap) l.length (ncs l) ∧ Below w.heap.size w w'
theorem own_seesU {w : World} {lo : Nat} {ao : Option Addr} {cap n : Nat} {l : List Int} (h : w.ownsRow lo 22 1 (.slice ao n cap) n (ucs l)) : SeesU w ao l := by
  intro j c hj
  obtain ⟨b, e, _, hl, hc, _⟩ := owns_cell h (ucs_get hj)
  exact ⟨b, 0, e, hl, by simpa using hc⟩
theorem own_seesN {w : World} {lo : Nat} {ao : Option Addr} {cap n : Nat} {l : List Int} (h : w.ownsRow lo 3 1 (.slice ao n cap) n (ncs l)) : SeesN w ao l := by
  intro j c hj
  obtain ⟨b, e, _, hl, hc, _⟩ := owns_cell h (ncs_get hj)
  exact ⟨b, 0, e, hl, by simpa using hc⟩
theorem ucs_snoc (l : List Int) (u : Int) : ucs (l ++ [u]) = ucs l ++ ucs [u] := ucs_app l [u]
/-- What bounds a view. -/
structure Bv (c : Vc) : Prop where
  bd : Bd c.os
  nr : c.rs.length ≤ 8796093022208
  rl : ∀ l ∈ c.rs, l.length ≤ 17592186044416 ∧ Wd l
  nq : c.qu.length ≤ 17592186044416
  sum : c.rs.flatten.length + c.qu.length ≤ 8796093022208
theorem fl_take {rs : List (List Int)} {k : Nat} {l : List Int} (h : rs[k]? = some l) (j : Nat) : ((rs.take k).flatten ++ l.take j).length ≤ rs.flatten.length := by
  have h1 : rs = rs.take k ++ l :: rs.drop (k + 1) := by
    obtain ⟨hl, rfl⟩ := List.getElem?_eq_some_iff.1 h
    simp
  have h2 : rs.flatten = (rs.take k).flatten ++ (l ++ (rs.drop (k + 1)).flatten) := by
    conv => lhs; rw [h1]
    simp
  rw [h2]
  simp
  omega
theorem filt_step {p : Int → Bool} {l : List Int} {j : Nat} {u : Int} (h : l[j]? = some u) : (l.take (j + 1)).filter p = (l.take j).filter p ++ (if p u then [u] else []) := by
  rw [List.take_add_one, h]
  simp only [Option.toList, List.filter_append]
  congr 1
  simp [List.filter_cons]
theorem flat_step {rs : List (List Int)} {k : Nat} {l : List Int} (h : rs[k]? = some l) : (rs.take (k + 1)).flatten = (rs.take k).flatten ++ l := by
  rw [List.take_add_one, h]
  simp

set_option maxHeartbeats 4000000 in
theorem roots_ok {c : Vc} {a : Av} {w : World} (hS : Shows w c a) (hB : Bv c) : Calls Try.prog 8 #[vl c a] w fun e w' => Ut w w' e (rts c) := by
  obtain ⟨W0, hW0, B0, R0⟩ := vbox w c a
  have V0 := hide (vcells R0)
  have VF := hide (fun (wx : World) (hb : Below W0.heap.size W0 wx) => vcells (row_on R0 hb))
  have HB0 := hide B0
  have HR0 := hide R0
  have HS0 := hide (hS.below B0)
  have l0 : w.heap.size < W0.heap.size := R0.lt
  have HBv := hide hB
  have hnr := hB.nr
  have hnq := hB.nq
  have hsum := hB.sum
  have IO := hide (fun (k : Int) (w1 : World) => isObject_ok (c := c) (a := a) (w := w1) hB.bd.no k)
  have HO := hide (fun (w1 : World) (h1 : Sob w1 a.oa c.os) (q : Nat) (o : Ob) (h : c.os[q]? = some o) => handleOf_ok h1 hB.bd.no h)
  have hno := hB.bd.no
  clear hS hB B0 R0
  obtain ⟨ph, co, ro, aa, na, ca, ra, cr, wa, nw, cw, oa, cb, fa, nf, cf, ga, ng, cg, qa, cq, k0, k1, k2, k3⟩ := a
  simp only [vl] at HO ⊢
  simp only at IO
  simp only at hW0 V0 VF
  obtain ⟨n, hn⟩ : ∃ n, c.os.length = n := ⟨_, rfl⟩
  obtain ⟨nr, hnre⟩ : ∃ nr, c.rs.length = nr := ⟨_, rfl⟩
  obtain ⟨nq, hnqe⟩ : ∃ nq, c.qu.length = nq := ⟨_, rfl⟩
  obtain ⟨tot, htot⟩ : ∃ tot, c.rs.flatten.length = tot := ⟨_, rfl⟩
  rw [hn] at hno
  rw [hnre] at hnr
  rw [hnqe] at hnq hsum
  rw [htot] at hsum
  rw [hn, hnre, hnqe] at hW0 V0 VF HO ⊢
  rw [hn] at IO
  have Hn := hide hn
  have Hnr := hide hnre
  have Hnq := hide hnqe
  have Ht := hide htot
  clear hn hnre hnqe htot
  obtain ⟨iU, hiU, hzU, hsU, hyU⟩ := infoU
  obtain ⟨z, hz⟩ : ∃ z, W0.heap.size = z := ⟨_, rfl⟩
  have Hz := hide hz
  rw [hz] at l0 VF
  clear hz
  have c4 := V0.out.2.2.2.2.1
  go_enter Try.func8, Try.ntmps8
  go_wp2_with fail
  clear hW0 c4
  go_loopw [3, 13] (fun v i wr => ∃ (k : Nat) (l : List Int), k ≤ nr ∧ i = .int .i64 k ∧ Hid (wr.ownsRow z 22 1 v l.length (ucs l)) ∧ Hid (l = (c.rs.take k).flatten.filter nz) ∧ Hid (Below z W0 wr)) (fun _ i _ => nr - (intOf i).toNat)
  case atStart => exact ⟨0, [], Nat.zero_le _, rfl, ⟨rfl, .inl ⟨rfl, rfl⟩⟩, (by simp : ([] : List Int) = _), by show Below z W0 W0; exact Below.refl _ _⟩
  case round =>
    obtain ⟨k, l, hk, rfl, HO1, HL, HB⟩ := hrel
    obtain ⟨la, cp, rfl⟩ := own_slice HO1.out
    have BW := hide (show Below w.heap.size w wr from HB0.out.trans (HB.out.mono (by omega)))
    have hzw : z ≤ wr.heap.size := by have := HB.out.size; rw [Hz.out] at this; exact this
    by_cases hlt : k < nr
    · have hkn : (k : Int) < (nr : Int) := by omega
      obtain ⟨r, hr⟩ : ∃ r, c.rs[k]? = some r := ⟨c.rs[k]'(by rw [Hnr.out]; exact hlt), by simp [Hnr.out, hlt]⟩
      obtain ⟨b, off, ai, ci, hra, hbl, hcc, hse⟩ := (HS0.out.below (show Below W0.heap.size W0 wr by rw [Hz.out]; exact HB.out)).rt k r hr
      simp only at hra
      subst hra
      have hrb := HBv.out.rl r (List.mem_of_getElem? hr)
      obtain ⟨m, hm⟩ : ∃ m, r.length = m := ⟨_, rfl⟩
      have hmb : m ≤ 17592186044416 := by rw [← hm]; exact hrb.1
      rw [hm] at hcc
      have Hm := hide hm
      have Hr := hide hr
      have HSE := hide hse
      have SEE := hide (fun (wx : World) (hb : Below z W0 wx) (j : Nat) (u : Int) (hu : r[j]? = some u) => by
        obtain ⟨b', off', ai', ci', h1, h2, h3, h4⟩ := HS0.out.rt k r hr
        have h5 := (HB.out.cell (p := ⟨b', off' + k, none⟩) (by rw [← Hz.out]; exact h2)).trans h3
        cases h1
        rw [hcc] at h5
        simp at h5
        obtain ⟨rfl, h5, rfl⟩ := h5
        exact (h4.below (show Below W0.heap.size W0 wx by rw [Hz.out]; exact hb)) j u hu)
      have Hlt := hide hlt
      have FT := hide (fl_take hr)
      have HWd := hide hrb.2
      clear hrb hm hr hse
      obtain ⟨wo, rfl⟩ : ∃ wo, wo = wr := ⟨_, rfl⟩
      go_wp2_with fail
      clear hcc
      go_loopw [3, 19] (fun v i wx => ∃ (j : Nat) (l2 : List Int), j ≤ m ∧ i = .int .i64 j ∧ Hid (wx.ownsRow z 22 1 v l2.length (ucs l2)) ∧ Hid (l2 = ((c.rs.take k).flatten ++ r.take j).filter nz) ∧ Hid (Below z W0 wx)) (fun _ i _ => m - (intOf i).toNat)
      case atStart => exact ⟨0, l, Nat.zero_le _, rfl, HO1.out, (by rw [HL.out]; simp : l = _), HB.out⟩
      case round =>
        obtain ⟨j, l2, hj, rfl, HO2, HL2, HB2⟩ := hrel
        obtain ⟨la2, cp2, rfl⟩ := own_slice HO2.out
        have hz2 : z ≤ wr.heap.size := by have := HB2.out.size; rw [Hz.out] at this; exact this
        by_cases hlt2 : j < m
        · have hjn : (j : Int) < (m : Int) := by omega
          obtain ⟨u, hu⟩ : ∃ u, r[j]? = some u := ⟨r[j]'(by rw [Hm.out]; exact hlt2), by simp [Hm.out, hlt2]⟩
          obtain ⟨b2, off2, rfl, hbl2, hcc2⟩ := SEE.out wr HB2.out j u hu
          have LN : l2.length ≤ tot := by
            have h1 := FT.out j
            rw [Ht.out] at h1
            rw [HL2.out]
            exact Nat.le_trans (List.length_filter_le _ _) h1
          have FS := hide (show ((c.rs.take k).flatten ++ r.take (j + 1)).filter nz = l2 ++ (if nz u then [u] else []) by
            rw [List.filter_append, filt_step hu, ← List.append_assoc, ← List.filter_append, ← HL2.out])
          obtain ⟨ln, hln⟩ : ∃ ln, l2.length = ln := ⟨_, rfl⟩
          rw [hln] at LN HO2
          rw [hln]
          have HLn := hide hln
          clear hln hu
          by_cases hu0 : u = 0
          · have g0 : (u != 0) = false := by simp [hu0]
            go_wp2_with fail
            go_roundw
            case rel =>
              refine ⟨j + 1, l2, by omega, by go_num, ?_, ?_, HB2.out⟩
              · rw [HLn.out]; exact HO2.out
              · show l2 = _
                rw [FS.out]
                simp [nz, hu0]
            case measure => simp [intOf]; omega
          · have g0 : (u != 0) = true := by simp [hu0]
            have O3 := hide (show (wr.alloc (.cells #[.int .u64 u] 22)).ownsRow z 22 1 (.slice la2 ln cp2) ln (ucs l2) from owns_on HO2.out ((Below.refl _ wr).alloc (Nat.le_refl _) _))
            go_wp2_with (at_builtin; refine wpList_append_own_at _ rfl (.tmp 25) (.tmp 27) 23 rfl z 22 iU (.int .u64 0) 1 8 Try.underlying23 hiU hzU hsU hyU rfl (by decide) (.slice la2 ln cp2) ln (ucs l2) rfl O3.out ⟨wr.heap.size, 0, none⟩ 1 1 (ucs [u]) rfl rfl (fun j v hj => by rw [Go.WideShapes.add_plain]; have hj1 : j < 1 := (by have := (List.getElem?_eq_some_iff.1 hj).1; simpa [ucs] using this); (obtain rfl : j = 0 := (by omega)); simp [ucs] at hj; rw [← hj]; simp) (ucs_one _) (by unfold maxLen; omega) (by omega) (by simp; omega) ?_; intro v2 w2 hown hgr _ _; obtain ⟨la3, cp3, rfl⟩ := own_slice hown; have HO4 := hide hown; have HB4 := hide (below_grown (HB2.out.alloc hz2 (.cells #[.int .u64 u] 22)) O3.out hgr (by simp; omega)); clear hown hgr)
            go_roundw
            case rel =>
              refine ⟨j + 1, l2 ++ [u], by omega, by go_num, ?_, ?_, HB4.out⟩
              · show World.ownsRow _ _ _ _ _ _ _
                rw [ucs_snoc, List.length_append, HLn.out]
                exact HO4.out
              · show l2 ++ [u] = _
                rw [FS.out]
                simp [nz, hu0]
            case measure => simp [intOf]; omega
        · have hjn : ¬ (j : Int) < (m : Int) := by omega
          go_wp2_with fail
          go_roundw
          case rel =>
            refine ⟨k + 1, l2, by omega, by go_num, HO2.out, ?_, HB2.out⟩
            show l2 = _
            have e : r.take j = r := List.take_of_length_le (by rw [Hm.out]; omega)
            rw [HL2.out, flat_step Hr.out, e]
          case measure => simp [intOf]; omega
    · have hkn : ¬ (k : Int) < (nr : Int) := by omega
      have hke : k = nr := by omega
      have HL0 := hide (show l = c.rs.flatten.filter nz by
        have e : c.rs.take k = c.rs := List.take_of_length_le (by rw [Hnr.out]; omega)
        have := HL.out
        rw [e] at this
        exact this)
      have LT : l.length ≤ tot := by rw [HL0.out, ← Ht.out]; exact List.length_filter_le _ _
      have c9 := (VF.out wr HB.out).2.2.2.2.2.2.2.2.2.1
      obtain ⟨wo, rfl⟩ : ∃ wo, wo = wr := ⟨_, rfl⟩
      have hk2 := hke
      clear hk hke hlt
      subst hk2
      go_wp2_with fail
      clear c9 hkn
      go_loopw [3, 34] (fun v i wx => ∃ (j : Nat) (l2 : List Int), j ≤ nq ∧ i = .int .i64 j ∧ Hid (wx.ownsRow z 22 1 v l2.length (ucs l2)) ∧ Hid (l2 = c.rs.flatten.filter nz ++ ((c.qu.take j).filter (isO c.os.length)).map (hof c.os)) ∧ Hid (Below z W0 wx)) (fun _ i _ => nq - (intOf i).toNat)
      case atStart => exact ⟨0, l, Nat.zero_le _, rfl, HO1.out, (by rw [HL0.out]; simp : l = _), HB.out⟩
      case round =>
        obtain ⟨j, l2, hj, rfl, HO2, HL2, HB2⟩ := hrel
        obtain ⟨la2, cp2, rfl⟩ := own_slice HO2.out
        have hz2 : z ≤ wr.heap.size := by have := HB2.out.size; rw [Hz.out] at this; exact this
        by_cases hlt2 : j < nq
        · have hjn : (j : Int) < (nq : Int) := by omega
          obtain ⟨x, hx⟩ : ∃ x, c.qu[j]? = some x := ⟨c.qu[j]'(by rw [Hnq.out]; exact hlt2), by simp [Hnq.out, hlt2]⟩
          have SH := HS0.out.below (show Below W0.heap.size W0 wr by rw [Hz.out]; exact HB2.out)
          obtain ⟨b2, off2, hqa, hbl2, hcc2⟩ := SH.qu j x hx
          have HSh := hide SH
          simp only at hqa
          subst hqa
          have LN : l2.length ≤ tot + j := by
            have h2 : (c.rs.flatten.filter nz).length ≤ tot := by rw [← Ht.out]; exact List.length_filter_le _ _
            have h3 : ((c.qu.take j).filter (isO c.os.length)).length ≤ j := Nat.le_trans (List.length_filter_le _ _) (by simp; omega)
            rw [HL2.out, List.length_append, List.length_map]
            omega
          have FS := hide (show c.rs.flatten.filter nz ++ ((c.qu.take (j + 1)).filter (isO c.os.length)).map (hof c.os) = l2 ++ (if isO c.os.length x then [hof c.os x] else []) by
            rw [filt_step hx, List.map_append, ← List.append_assoc, ← HL2.out]
            split <;> simp)
          obtain ⟨ln, hln⟩ : ∃ ln, l2.length = ln := ⟨_, rfl⟩
          rw [hln] at LN HO2
          rw [hln]
          have HLn := hide hln
          obtain ⟨c0, c1, c2, c3, c4, c5, c6, c7, c8, c9, c10, c11, c12, c13⟩ := VF.out wr HB2.out
          have IX := hide (IO.out x wr)
          clear hln hx SH
          by_cases hxo : 1 ≤ x ∧ x ≤ (n : Int)
          · have IY := hide (IX.out.mono (R' := fun e w' => e = .returned (.bool true) ∧ Below wr.heap.size wr w') (by rintro e w' ⟨ht, hb⟩; rcases ht.get with ⟨_, h2⟩ | ⟨h1, _⟩; exact ⟨h2, hb⟩; exact absurd hxo h1))
            obtain ⟨q, rfl⟩ : ∃ q : Nat, x = (q : Int) + 1 := ⟨x.toNat - 1, by omega⟩
            have hqn : q < c.os.length := by rw [Hn.out]; omega
            obtain ⟨o, ho⟩ : ∃ o, c.os[q]? = some o := ⟨c.os[q], by simp [hqn]⟩
            have FS2 := hide (show c.rs.flatten.filter nz ++ ((c.qu.take (j + 1)).filter (isO c.os.length)).map (hof c.os) = l2 ++ [hd ((q : Int) + 1) o.ge] by
              rw [FS.out, hof_at ho]
              have : isO c.os.length ((q : Int) + 1) = true := by simp [isO]; omega
              rw [this]; rfl)
            have HAN := hide (fun (w1 : World) (hb : Below wr.heap.size wr w1) => HO.out w1 (HSh.out.below hb).ob q o ho)
            obtain ⟨u, hu⟩ : ∃ u, hd ((q : Int) + 1) o.ge = u := ⟨_, rfl⟩
            rw [hu] at FS2 HAN
            clear ho hu IX FS hqn hxo
            go_upto_region 16 with (go_at_call 23; refine IY.out.mono ?_; rintro e w5 ⟨rfl, hb5⟩; have HB5 := hide hb5; clear hb5)
            have HBx := hide (HB2.out.trans (HB5.out.mono hz2))
            clear c0 c1 c2 c3 c4 c5 c6 c7 c8 c9 c10 c11 c12 c13
            obtain ⟨c0, c1, c2, c3, c4, c5, c6, c7, c8, c9, c10, c11, c12, c13⟩ := VF.out w5 HBx.out
            have hz5 : wr.heap.size ≤ w5.heap.size := HB5.out.size
            have HAN5 := hide (HAN.out w5 HB5.out)
            have HO5 := hide (owns_on HO2.out HB5.out)
            go_wp2_with (first
              | (go_at_call 24; refine HAN5.out.mono ?_; rintro e w6 ⟨rfl, hb6⟩; have HB6 := hide hb6; have hz6 : w5.heap.size ≤ w6.heap.size := hb6.size; have O6 := hide (show (w6.alloc (.cells #[.int .u64 u] 22)).ownsRow z 22 1 (.slice la2 ln cp2) ln (ucs l2) from owns_on (owns_on HO5.out hb6) ((Below.refl _ w6).alloc (Nat.le_refl _) _)); clear hb6)
              | (at_builtin; refine wpList_append_own_at _ rfl (.tmp 42) (.tmp 46) 23 rfl z 22 iU (.int .u64 0) 1 8 Try.underlying23 hiU hzU hsU hyU rfl (by decide) (.slice la2 ln cp2) ln (ucs l2) rfl O6.out ⟨w6.heap.size, 0, none⟩ 1 1 (ucs [u]) rfl rfl (fun j v hj => by rw [Go.WideShapes.add_plain]; have hj1 : j < 1 := (by have := (List.getElem?_eq_some_iff.1 hj).1; simpa [ucs] using this); (obtain rfl : j = 0 := (by omega)); simp [ucs] at hj; rw [← hj]; simp) (ucs_one _) (by unfold maxLen; omega) (by omega) (by simp; omega) ?_; intro v2 w2 hown hgr _ _; obtain ⟨la3, cp3, rfl⟩ := own_slice hown; have HO4 := hide hown; have HB4 := hide (below_grown ((HBx.out.trans (HB6.out.mono (by omega))).alloc (by omega) (.cells #[.int .u64 u] 22)) O6.out hgr (by simp; omega)); clear hown hgr))
            go_roundw
            case rel =>
              refine ⟨j + 1, l2 ++ [u], by omega, by go_num, ?_, ?_, HB4.out⟩
              · show World.ownsRow _ _ _ _ _ _ _
                rw [ucs_snoc, List.length_append, HLn.out]
                exact HO4.out
              · show l2 ++ [u] = _
                rw [FS2.out]
            case measure => simp [intOf]; omega
          · have IY := hide (IX.out.mono (R' := fun e w' => e = .returned (.bool false) ∧ Below wr.heap.size wr w') (by rintro e w' ⟨ht, hb⟩; rcases ht.get with ⟨h1, _⟩ | ⟨_, h2⟩; exact absurd h1 hxo; exact ⟨h2, hb⟩))
            have FS2 := hide (show c.rs.flatten.filter nz ++ ((c.qu.take (j + 1)).filter (isO c.os.length)).map (hof c.os) = l2 by
              rw [FS.out]
              have : isO c.os.length x = false := by rw [Hn.out]; simp only [isO]; exact decide_eq_false hxo
              rw [this]; simp)
            clear hxo IX FS
            go_wp2_with (go_at_call 23; refine IY.out.mono ?_; rintro e w5 ⟨rfl, hb5⟩; have HB5 := hide hb5; clear hb5)
            go_roundw
            case rel =>
              refine ⟨j + 1, l2, by omega, by go_num, ?_, ?_, HB2.out.trans (HB5.out.mono hz2)⟩
              · rw [HLn.out]; exact owns_on HO2.out HB5.out
              · show l2 = _
                rw [FS2.out]
            case measure => simp [intOf]; omega
        · have hjn : ¬ (j : Int) < (nq : Int) := by omega
          have HLE := hide (show l2 = rts c by
            have e : c.qu.take j = c.qu := List.take_of_length_le (by rw [Hnq.out]; omega)
            have := HL2.out
            rw [e] at this
            exact this)
          go_wp2_with fail
          go_ret
          rw [← HLE.out]
          exact ⟨_, _, rfl, owns_low HO2.out (by omega), HB0.out.trans (HB2.out.mono (by omega))⟩
end Gr
end Go.Proofs.Ytlbcjolbgeficaa
