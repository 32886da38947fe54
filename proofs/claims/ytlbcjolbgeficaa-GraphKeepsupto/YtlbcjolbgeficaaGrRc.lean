/-
  Graph: the document's Handle and Roots
-/
import Derived.Test.YtlbcjolbgeficaaGrRb
import Derived.Deep.RegionHeldLaw
namespace Go.Proofs.Ytlbcjolbgeficaa
open Go.RowKit
set_option linter.unusedVariables false
set_option linter.unusedSimpArgs false
set_option linter.unnecessarySimpa false
set_option maxRecDepth 20000
namespace Gr
theorem step_append_at {P : Program} {ops : Array Oper} {o : Oper} {a : Act} {w : World} {K : Act → World → Prop} {Q : Exit → Act → World → Prop} {E : Prop}
    (hg : o.guard = none) (s x : Operand) (t : TypeId) (hop : o.op = Op.call { callee := Callee.builtin Builtin.append, args := #[s, x], argTypes := #[t, t] })
    (base : Nat) (e : TypeId) (z : Value) (size bytes : Nat) (ht : P.underlying t = some (.slice e)) (hi : (P.info? e).map (fun i => (i.zero, i.size, i.bytes)) = some (some z, size, bytes))
    (hzs : z.cells.size = size) (hsz : 0 < size)
    (v : Value) (n : Nat) (xs : List Value) (hs : a.eval s = v) (hown : w.ownsRow base e size v n xs)
    (ad : Addr) (m c : Nat) (news : List Value) (hx : a.eval x = .slice (some ad) m c) (hl : news.length = m * size) (hnews : ∀ j u, news[j]? = some u → w.cell? (ad.add j) = some u) (h1 : ∀ u ∈ news, u.oneCell' = true)
    (h63 : n + m ≤ maxLen) (hbytes : (n + m) * bytes ≤ 140737488355328) (hbase : base ≤ w.heap.size)
    (h : ∀ v' w', w'.ownsRow base e size v' (n + m) (xs ++ news) → w.grownBy w' v.ownBlock → (v'.ownBlock = v.ownBlock ∨ v'.ownBlock = some w.heap.size) → K (a.put o.dst v') w') :
    if Region.wanted o (yielded ops a.tmps) = true then Oper.wp P o a w K Q else E := by
  obtain ⟨i, hi1, hi2⟩ : ∃ i, P.info? e = some i ∧ (i.zero, i.size, i.bytes) = (some z, size, bytes) := by
    cases hp : P.info? e with
    | none => rw [hp] at hi; cases hi
    | some i => rw [hp] at hi; exact ⟨i, rfl, by simpa using hi⟩
  simp only [Prod.mk.injEq] at hi2
  have hw : Region.wanted o (yielded ops a.tmps) = true := by simp [Region.wanted, hg]
  rw [if_pos hw]
  obtain ⟨v', w', hr, h2, h3, h4, h5⟩ := run_append_own_at (P := P) w base t o.type e i z size bytes ht hi1 hi2.1 hi2.2.1 hi2.2.2 hzs hsz v n xs hown ad m c news hl hnews h1 h63 hbytes hbase
  unfold Oper.wp execOp
  simp only [hop, resolve, invoke, builtin, Sem.run_bind, Sem.run_pure, Result.andThen_ok, List.map_toArray, List.map_cons, List.map_nil, hs, hx, hr]
  exact h v' w' h2 h3 h5
theorem infoUz : (Try.prog.info? 22).map (fun i => (i.zero, i.size, i.bytes)) = some (some (.int .u64 0), 1, 8) := by kernel_rfl
theorem handle_bits (q : Int) (g : Int) : bits .or .u64 (bits .and .u64 (IntKind.u64.wrap q) 4294967295) (IntKind.u64.wrap (g * 4294967296)) = hd q g := join_eq q g
set_option maxHeartbeats 2000000 in
theorem rhandle_ok {c : Vc} {a : Av} {w : World} (hS : Sob w a.oa c.os) (hno : c.os.length ≤ 4398046511104) {q : Nat} {o : Ob} (ho : c.os[q]? = some o) : Calls Try.prog 27 #[vl c a, .int .i64 ((q : Int) + 1)] w fun e w' => e = .returned (.int .u64 (hd ((q : Int) + 1) o.ge)) ∧ Below w.heap.size w w' := by
  obtain ⟨W0, hW0, B0, R0⟩ := vbox w c a
  have c6 := (vcells R0).2.2.2.2.2.2.1
  have HB0 := hide B0
  obtain ⟨b, off, ai, ci, hoa, hbl, hoc, hse⟩ := hS.below B0 q o ho
  have o5 := (Ob.cells9 hoc).2.2.2.2.2.1
  have hq : q < c.os.length := (List.getElem?_eq_some_iff.1 ho).1
  have HJ := hide (show bits .or .u64 (bits .and .u64 ((q : Int) + 1) 4294967295) (IntKind.u64.wrap (o.ge * 4294967296)) = hd ((q : Int) + 1) o.ge by
    have h1 := join_eq ((q : Int) + 1) o.ge
    rw [show IntKind.u64.wrap ((q : Int) + 1) = (q : Int) + 1 by rw [wrapU]; omega] at h1
    exact h1)
  clear B0 R0 hoc hse
  obtain ⟨ph, co, ro, aa, na, ca, ra, cr, wa, nw, cw, oa, cb, fa, nf, cf, ga, ng, cg, qa, cq, k0, k1, k2, k3⟩ := a
  simp only [vl]
  simp only at hW0 c6 hoa
  subst hoa
  obtain ⟨n, hn⟩ : ∃ n, c.os.length = n := ⟨_, rfl⟩
  rw [hn] at hW0 c6 hq hno ⊢
  have hq2 : (q : Int) < (n : Int) := by omega
  clear hn hS ho
  go_enter Try.func27, Try.ntmps27
  go_wp2
  go_ret
  exact ⟨ret_int HJ.out, HB0.out⟩

set_option maxHeartbeats 8000000 in
theorem rroots_ok {c : Vc} {a : Av} {w : World} (hS : Shows w c a) (hB : Bv c) : Calls Try.prog 17 #[vl c a] w fun e w' => Ut w w' e (rts c) := by
  obtain ⟨W0, hW0, B0, R0⟩ := vbox w c a
  have VF := hide (fun (wx : World) (hb : Below W0.heap.size W0 wx) => vcells (row_on R0 hb))
  have HB0 := hide B0
  have HS0 := hide (hS.below B0)
  have l0 : w.heap.size < W0.heap.size := R0.lt
  have HBv := hide hB
  have hnr := hB.nr
  have hnq := hB.nq
  have hsum := hB.sum
  have HO := hide (fun (w1 : World) (h1 : Sob w1 a.oa c.os) (q : Nat) (o : Ob) (h : c.os[q]? = some o) => rhandle_ok h1 hB.bd.no h)
  have hno := hB.bd.no
  clear hS hB B0 R0
  obtain ⟨ph, co, ro, aa, na, ca, ra, cr, wa, nw, cw, oa, cb, fa, nf, cf, ga, ng, cg, qa, cq, k0, k1, k2, k3⟩ := a
  simp only [vl] at HO ⊢
  simp only at hW0 VF
  obtain ⟨n, hn⟩ : ∃ n, c.os.length = n := ⟨_, rfl⟩
  obtain ⟨nr, hnre⟩ : ∃ nr, c.rs.length = nr := ⟨_, rfl⟩
  obtain ⟨nqz, hnqe⟩ : ∃ nq, c.qu.length = nq := ⟨_, rfl⟩
  obtain ⟨tot, htot⟩ : ∃ tot, c.rs.flatten.length = tot := ⟨_, rfl⟩
  rw [hn] at hno
  rw [hnre] at hnr
  rw [hnqe] at hnq hsum
  rw [htot] at hsum
  simp only [hn, hnre, hnqe] at hW0 VF HO ⊢
  have Hn := hide hn
  have Hnr := hide hnre
  have Hnq := hide hnqe
  have Ht := hide htot
  clear hn hnre hnqe htot
  obtain ⟨iU, hiU, hzU, hsU, hyU⟩ := infoU
  obtain ⟨z, hz⟩ : ∃ z, W0.heap.size = z := ⟨_, rfl⟩
  have Hz := hide hz
  rw [hz] at l0 VF
  clear hz
  go_enter Try.func17, Try.ntmps17
  go_wp2_with fail
  clear hW0
  go_loopw [3, 4] (fun v i wr => ∃ (k : Nat) (l : List Int), k ≤ nr ∧ i = .int .i64 k ∧ Hid (wr.ownsRow z 22 1 v l.length (ucs l)) ∧ Hid (l = (c.rs.take k).flatten.filter nz) ∧ Hid (Below z W0 wr)) (fun _ i _ => nr - (intOf i).toNat)
  case atStart => exact ⟨0, [], Nat.zero_le _, rfl, ⟨rfl, .inl ⟨rfl, rfl⟩⟩, (by simp : ([] : List Int) = _), by show Below z W0 W0; exact Below.refl _ _⟩
  case round =>
    obtain ⟨k, l, hk, rfl, HO1, HL, HB⟩ := hrel
    obtain ⟨la, cp, rfl⟩ := own_slice HO1.out
    have c4 := (VF.out wr HB.out).2.2.2.2.1
    by_cases hlt : k < nr
    · have hkn : (k : Int) < (nr : Int) := by omega
      obtain ⟨r, hr⟩ : ∃ r, c.rs[k]? = some r := ⟨c.rs[k]'(by rw [Hnr.out]; exact hlt), by simp [Hnr.out, hlt]⟩
      obtain ⟨b, off, ai, ci, hra, hbl, hcc0, hse0⟩ := HS0.out.rt k r hr
      simp only at hra
      subst hra
      have CC := hide (fun (wx : World) (hb : Below z W0 wx) => (hb.cell (p := ⟨b, off + k, none⟩) (by rw [← Hz.out]; exact hbl)).trans hcc0)
      have SE := hide (fun (wx : World) (hb : Below z W0 wx) => hse0.below (show Below W0.heap.size W0 wx by rw [Hz.out]; exact hb))
      obtain ⟨m, hm⟩ : ∃ m, r.length = m := ⟨_, rfl⟩
      have hmb : m ≤ 17592186044416 := by rw [← hm]; exact (HBv.out.rl r (List.mem_of_getElem? hr)).1
      rw [hm] at CC
      have Hm := hide hm
      have Hr := hide hr
      have FT := hide (fl_take hr)
      clear hm hr hse0 hcc0
      obtain ⟨wo, rfl⟩ : ∃ wo, wo = wr := ⟨_, rfl⟩
      go_wp2_with fail
      clear c4
      go_loopw [3, 5] (fun v i wx => ∃ (j : Nat) (l2 : List Int), j ≤ m ∧ i = .int .i64 j ∧ Hid (wx.ownsRow z 22 1 v l2.length (ucs l2)) ∧ Hid (l2 = ((c.rs.take k).flatten ++ r.take j).filter nz) ∧ Hid (Below z W0 wx)) (fun _ i _ => m - (intOf i).toNat)
      case atStart => exact ⟨0, l, Nat.zero_le _, rfl, HO1.out, (by rw [HL.out]; simp : l = _), HB.out⟩
      case round =>
        obtain ⟨j, l2, hj, rfl, HO2, HL2, HB2⟩ := hrel
        obtain ⟨la2, cp2, rfl⟩ := own_slice HO2.out
        have c4 := (VF.out wr HB2.out).2.2.2.2.1
        have hcc := CC.out wr HB2.out
        have hz2 : z ≤ wr.heap.size := by have := HB2.out.size; rw [Hz.out] at this; exact this
        by_cases hlt2 : j < m
        · have hjn : (j : Int) < (m : Int) := by omega
          obtain ⟨u, hu⟩ : ∃ u, r[j]? = some u := ⟨r[j]'(by rw [Hm.out]; exact hlt2), by simp [Hm.out, hlt2]⟩
          obtain ⟨b2, off2, rfl, hbl2, hcc2⟩ := SE.out wr HB2.out j u hu
          have LN : l2.length ≤ tot := by
            have h1 := FT.out j
            rw [Ht.out] at h1
            rw [HL2.out]
            exact Nat.le_trans (List.length_filter_le _ _) h1
          have FS := hide (show ((c.rs.take k).flatten ++ r.take (j + 1)).filter nz = l2 ++ (if nz u then [u] else []) by
            rw [List.filter_append, filt_step hu, ← List.append_assoc, ← List.filter_append, ← HL2.out])
          obtain ⟨ln, hln⟩ : ∃ ln, l2.length = ln := ⟨_, rfl⟩
          rw [hln] at LN HO2
          rw [hln]
          have HLn := hide hln
          clear hln hu
          by_cases hu0 : u = 0
          · have g0 : (u != 0) = false := by simp [hu0]
            go_wp2_with fail
            go_roundw
            case rel =>
              refine ⟨j + 1, l2, by omega, by go_num, ?_, ?_, HB2.out⟩
              · rw [HLn.out]; exact HO2.out
              · show l2 = _
                rw [FS.out]
                simp [nz, hu0]
            case measure => simp [intOf]; omega
          · have g0 : (u != 0) = true := by simp [hu0]
            have O3 := hide (show (wr.alloc (.cells #[.int .u64 u] 22)).ownsRow z 22 1 (.slice la2 ln cp2) ln (ucs l2) from owns_on HO2.out ((Below.refl _ wr).alloc (Nat.le_refl _) _))
            go_wp2_with (at_builtin; refine wpList_append_own_at _ rfl (.tmp 33) (.tmp 42) 23 rfl z 22 iU (.int .u64 0) 1 8 Try.underlying23 hiU hzU hsU hyU rfl (by decide) (.slice la2 ln cp2) ln (ucs l2) rfl O3.out ⟨wr.heap.size, 0, none⟩ 1 1 (ucs [u]) rfl rfl (fun j v hj => by rw [Go.WideShapes.add_plain]; have hj1 : j < 1 := (by have := (List.getElem?_eq_some_iff.1 hj).1; simpa [ucs] using this); (obtain rfl : j = 0 := (by omega)); simp [ucs] at hj; rw [← hj]; simp) (ucs_one _) (by unfold maxLen; omega) (by omega) (by simp; omega) ?_; intro v2 w2 hown hgr _ _; obtain ⟨la3, cp3, rfl⟩ := own_slice hown; have HO4 := hide hown; have HB4 := hide (below_grown (HB2.out.alloc hz2 (.cells #[.int .u64 u] 22)) O3.out hgr (by simp; omega)); clear hown hgr)
            go_roundw
            case rel =>
              refine ⟨j + 1, l2 ++ [u], by omega, by go_num, ?_, ?_, HB4.out⟩
              · show World.ownsRow _ _ _ _ _ _ _
                rw [ucs_snoc, List.length_append, HLn.out]
                exact HO4.out
              · show l2 ++ [u] = _
                rw [FS.out]
                simp [nz, hu0]
            case measure => simp [intOf]; omega
        · have hjn : ¬ (j : Int) < (m : Int) := by omega
          go_wp2_with fail
          go_roundw
          case rel =>
            refine ⟨k + 1, l2, by omega, by go_num, HO2.out, ?_, HB2.out⟩
            show l2 = _
            have e : r.take j = r := List.take_of_length_le (by rw [Hm.out]; omega)
            rw [HL2.out, flat_step Hr.out, e]
          case measure => simp [intOf]; omega
    · have hkn : ¬ (k : Int) < (nr : Int) := by omega
      have hke : k = nr := by omega
      have HL0 := hide (show l = c.rs.flatten.filter nz by
        have e : c.rs.take k = c.rs := List.take_of_length_le (by rw [Hnr.out]; omega)
        have := HL.out
        rw [e] at this
        exact this)
      obtain ⟨wo, rfl⟩ : ∃ wo, wo = wr := ⟨_, rfl⟩
      clear hk hlt hke
      go_wp2_with fail
      clear c4 hkn
      go_loopw [3, 6] (fun v i wx => ∃ (j : Nat) (l2 : List Int), j ≤ nqz ∧ i = .int .i64 j ∧ Hid (wx.ownsRow z 22 1 v l2.length (ucs l2)) ∧ Hid (l2 = c.rs.flatten.filter nz ++ ((c.qu.take j).filter (isO c.os.length)).map (hof c.os)) ∧ Hid (Below z W0 wx)) (fun _ i _ => nqz - (intOf i).toNat)
      case atStart => exact ⟨0, l, Nat.zero_le _, rfl, HO1.out, (by rw [HL0.out]; simp : l = _), HB.out⟩
      case round =>
        obtain ⟨j, l2, hj, rfl, HO2, HL2, HB2⟩ := hrel
        obtain ⟨la2, cp2, rfl⟩ := own_slice HO2.out
        have hz2 : z ≤ wr.heap.size := by have := HB2.out.size; rw [Hz.out] at this; exact this
        have c9 := (VF.out wr HB2.out).2.2.2.2.2.2.2.2.2.1
        have c6 := (VF.out wr HB2.out).2.2.2.2.2.2.1
        by_cases hlt2 : j < nqz
        · have hjn : (j : Int) < (nqz : Int) := by omega
          obtain ⟨x, hx⟩ : ∃ x, c.qu[j]? = some x := ⟨c.qu[j]'(by rw [Hnq.out]; exact hlt2), by simp [Hnq.out, hlt2]⟩
          have SH := HS0.out.below (show Below W0.heap.size W0 wr by rw [Hz.out]; exact HB2.out)
          obtain ⟨b2, off2, hqa, hbl2, hcc0⟩ := HS0.out.qu j x hx
          have HSh := hide SH
          simp only at hqa
          subst hqa
          have CX := hide (fun (wx : World) (hb : Below z W0 wx) => (hb.cell (p := ⟨b2, off2 + j, none⟩) (by rw [← Hz.out]; exact hbl2)).trans hcc0)
          have hcc2 := CX.out wr HB2.out
          clear hcc0 hbl2
          have LN : l2.length ≤ tot + j := by
            have h2 : (c.rs.flatten.filter nz).length ≤ tot := by rw [← Ht.out]; exact List.length_filter_le _ _
            have h3 : ((c.qu.take j).filter (isO c.os.length)).length ≤ j := Nat.le_trans (List.length_filter_le _ _) (by simp; omega)
            rw [HL2.out, List.length_append, List.length_map]
            omega
          have FS := hide (show c.rs.flatten.filter nz ++ ((c.qu.take (j + 1)).filter (isO c.os.length)).map (hof c.os) = l2 ++ (if isO c.os.length x then [hof c.os x] else []) by
            rw [filt_step hx, List.map_append, ← List.append_assoc, ← HL2.out]
            split <;> simp)
          obtain ⟨ln, hln⟩ : ∃ ln, l2.length = ln := ⟨_, rfl⟩
          rw [hln] at LN HO2
          rw [hln]
          have HLn := hide hln
          clear hln hx SH
          by_cases hxo : 1 ≤ x ∧ x ≤ (n : Int)
          · obtain ⟨q, rfl⟩ : ∃ q : Nat, x = (q : Int) + 1 := ⟨x.toNat - 1, by omega⟩
            have hqn : q < c.os.length := by rw [Hn.out]; omega
            obtain ⟨o, ho⟩ : ∃ o, c.os[q]? = some o := ⟨c.os[q], by simp [hqn]⟩
            have FS2 := hide (show c.rs.flatten.filter nz ++ ((c.qu.take (j + 1)).filter (isO c.os.length)).map (hof c.os) = l2 ++ [hd ((q : Int) + 1) o.ge] by
              rw [FS.out, hof_at ho]
              have : isO c.os.length ((q : Int) + 1) = true := by simp [isO]; omega
              rw [this]; rfl)
            have HAN := hide (fun (w1 : World) (hb : Below wr.heap.size wr w1) => HO.out w1 (HSh.out.below hb).ob q o ho)
            obtain ⟨u, hu⟩ : ∃ u, hd ((q : Int) + 1) o.ge = u := ⟨_, rfl⟩
            rw [hu] at FS2 HAN
            have p1 : 1 ≤ (q : Int) + 1 := hxo.1
            have p2 : (q : Int) + 1 ≤ (n : Int) := hxo.2
            have p3 : decide (1 ≤ (q : Int) + 1) = true := decide_eq_true p1
            have p4 : decide ((q : Int) + 1 ≤ (n : Int)) = true := decide_eq_true p2
            clear ho hu FS hqn hxo
            go_upto_region 13 with (fail)
            go_quiet (fail)
            go_upto_region 14 with (fail)
            obtain ⟨WD, hWD⟩ : ∃ WD, (wr.drewN nq).drew = WD := ⟨_, rfl⟩
            have D1 : Below wr.heap.size wr WD := by rw [← hWD]; exact ⟨rfl, rfl, rfl, Nat.le_refl _, fun _ _ => rfl⟩
            have DZ : Below z W0 WD := HB2.out.trans (D1.mono hz2)
            have K0 := VF.out WD DZ
            have x0 := CX.out WD DZ
            have HAN5 := hide (HAN.out WD D1)
            have HO5 := hide (owns_on HO2.out D1)
            have hzD : z ≤ WD.heap.size := Nat.le_trans hz2 D1.size
            rw [← hWD] at K0 x0 HAN5
            have DZ0 := hide DZ
            have D10 := hide D1
            have hWD2 := hide hWD
            clear D1 DZ hWD c9 c6 hcc2 p1 p2 p3 p4
            go_region_held_law (fun w' => w'.cell? ⟨w.heap.size, 0, none⟩ = some (.int .i64 ph) ∧ w'.cell? ⟨w.heap.size, 1, none⟩ = some (.int .i64 co) ∧ w'.cell? ⟨w.heap.size, 2, none⟩ = some (.int .u64 ro) ∧ w'.cell? ⟨w.heap.size, 3, none⟩ = some (.slice aa na ca) ∧ w'.cell? ⟨w.heap.size, 4, none⟩ = some (.slice ra nr cr) ∧ w'.cell? ⟨w.heap.size, 5, none⟩ = some (.slice wa nw cw) ∧ w'.cell? ⟨w.heap.size, 6, none⟩ = some (.slice oa n cb) ∧ w'.cell? ⟨w.heap.size, 7, none⟩ = some (.slice fa nf cf) ∧ w'.cell? ⟨w.heap.size, 8, none⟩ = some (.slice ga ng cg) ∧ w'.cell? ⟨w.heap.size, 9, none⟩ = some (.slice (some ⟨b2, off2, none⟩) nqz cq) ∧ w'.cell? ⟨w.heap.size, 10, none⟩ = some (.int .u64 k0) ∧ w'.cell? ⟨w.heap.size, 11, none⟩ = some (.int .u64 k1) ∧ w'.cell? ⟨w.heap.size, 12, none⟩ = some (.int .u64 k2) ∧ w'.cell? ⟨w.heap.size, 13, none⟩ = some (.int .u64 k3) ∧ w'.cell? ⟨b2, off2 + j, none⟩ = some (.int .i64 ((q : Int) + 1))) (first | exact ⟨K0.1, K0.2.1, K0.2.2.1, K0.2.2.2.1, K0.2.2.2.2.1, K0.2.2.2.2.2.1, K0.2.2.2.2.2.2.1, K0.2.2.2.2.2.2.2.1, K0.2.2.2.2.2.2.2.2.1, K0.2.2.2.2.2.2.2.2.2.1, K0.2.2.2.2.2.2.2.2.2.2.1, K0.2.2.2.2.2.2.2.2.2.2.2.1, K0.2.2.2.2.2.2.2.2.2.2.2.2.1, K0.2.2.2.2.2.2.2.2.2.2.2.2.2, x0⟩ | exact ⟨K1.1, K1.2.1, K1.2.2.1, K1.2.2.2.1, K1.2.2.2.2.1, K1.2.2.2.2.2.1, K1.2.2.2.2.2.2.1, K1.2.2.2.2.2.2.2.1, K1.2.2.2.2.2.2.2.2.1, K1.2.2.2.2.2.2.2.2.2.1, K1.2.2.2.2.2.2.2.2.2.2.1, K1.2.2.2.2.2.2.2.2.2.2.2.1, K1.2.2.2.2.2.2.2.2.2.2.2.2.1, K1.2.2.2.2.2.2.2.2.2.2.2.2.2, x1⟩ | exact ⟨K2.1, K2.2.1, K2.2.2.1, K2.2.2.2.1, K2.2.2.2.2.1, K2.2.2.2.2.2.1, K2.2.2.2.2.2.2.1, K2.2.2.2.2.2.2.2.1, K2.2.2.2.2.2.2.2.2.1, K2.2.2.2.2.2.2.2.2.2.1, K2.2.2.2.2.2.2.2.2.2.2.1, K2.2.2.2.2.2.2.2.2.2.2.2.1, K2.2.2.2.2.2.2.2.2.2.2.2.2.1, K2.2.2.2.2.2.2.2.2.2.2.2.2.2, x2⟩ | exact ⟨K3.1, K3.2.1, K3.2.2.1, K3.2.2.2.1, K3.2.2.2.2.1, K3.2.2.2.2.2.1, K3.2.2.2.2.2.2.1, K3.2.2.2.2.2.2.2.1, K3.2.2.2.2.2.2.2.2.1, K3.2.2.2.2.2.2.2.2.2.1, K3.2.2.2.2.2.2.2.2.2.2.1, K3.2.2.2.2.2.2.2.2.2.2.2.1, K3.2.2.2.2.2.2.2.2.2.2.2.2.1, K3.2.2.2.2.2.2.2.2.2.2.2.2.2, x3⟩) (first
              | (go_at_call 27; refine HAN5.out.mono ?_; rintro e w6 ⟨rfl, hb6⟩; have HB6 := hide (show Below WD.heap.size WD w6 by rw [← hWD2.out]; exact hb6); have Z6 := hide (DZ0.out.trans (HB6.out.mono hzD)); have K1 := VF.out w6 Z6.out; have x1 := CX.out w6 Z6.out; have O6 := hide (show (w6.alloc (.cells #[.int .u64 u] 22)).ownsRow z 22 1 (.slice la2 ln cp2) ln (ucs l2) from owns_on (owns_on HO5.out HB6.out) ((Below.refl _ w6).alloc (Nat.le_refl _) _)); have A6 := hide (show Below z W0 (w6.alloc (.cells #[.int .u64 u] 22)) from Z6.out.alloc (Nat.le_trans hzD HB6.out.size) _); have K2 := VF.out _ A6.out; have x2 := CX.out _ A6.out; have hz6 : z ≤ w6.heap.size := Nat.le_trans hzD HB6.out.size; clear hb6)
              | (refine step_append_at rfl (.tmp 68) (.tmp 76) 23 rfl z 22 (.int .u64 0) 1 8 Try.underlying23 infoUz rfl (by decide) (.slice la2 ln cp2) ln (ucs l2) (by simp [Act.eval, Act.put]) O6.out ⟨w6.heap.size, 0, none⟩ 1 1 (ucs [u]) (by simp [Act.eval, Act.put]) rfl (fun j v hj => by rw [Go.WideShapes.add_plain]; have hj1 : j < 1 := (by have := (List.getElem?_eq_some_iff.1 hj).1; simpa [ucs] using this); (obtain rfl : j = 0 := (by omega)); simp [ucs] at hj; rw [← hj]; simp) (ucs_one _) (by unfold maxLen; omega) (by omega) (by simp; omega) ?_; intro v2 w2 hown hgr _; obtain ⟨la3, cp3, rfl⟩ := own_slice hown; have HO4 := hide hown; have HB4 := hide (below_grown A6.out O6.out hgr (by simp; omega)); have K3 := VF.out w2 HB4.out; have x3 := CX.out w2 HB4.out; clear hown hgr))
            (try simp only [Act.put, List.setIfInBounds_toArray, List.set_cons_succ, List.set_cons_zero])
            go_wp2_with fail
            go_roundw
            case rel =>
              refine ⟨j + 1, l2 ++ [u], by omega, by go_num, ?_, ?_, HB4.out⟩
              · show World.ownsRow _ _ _ _ _ _ _
                rw [ucs_snoc, List.length_append, HLn.out]
                exact HO4.out
              · show l2 ++ [u] = _
                rw [FS2.out]
            case measure => simp [intOf]; omega
          · have FS2 := hide (show c.rs.flatten.filter nz ++ ((c.qu.take (j + 1)).filter (isO c.os.length)).map (hof c.os) = l2 by
              rw [FS.out]
              have : isO c.os.length x = false := by rw [Hn.out]; simp only [isO]; exact decide_eq_false hxo
              rw [this]; simp)
            by_cases hx1 : 1 ≤ x
            · have hx2 : ¬ x ≤ (n : Int) := fun h => hxo ⟨hx1, h⟩
              have p3 : decide (1 ≤ x) = true := decide_eq_true hx1
              have p4 : decide (x ≤ (n : Int)) = false := decide_eq_false hx2
              clear hxo FS
              go_upto_region 13 with (fail)
              go_quiet (fail)
              go_wp2_with fail
              go_roundw
              case rel =>
                refine ⟨j + 1, l2, by omega, by go_num, ?_, ?_, below_drewN HB2.out _⟩
                · rw [HLn.out]; exact owns_on HO2.out (below_drewN (Below.refl _ _) _)
                · show l2 = _
                  rw [FS2.out]
              case measure => simp [intOf]; omega
            · have p3 : decide (1 ≤ x) = false := decide_eq_false hx1
              clear hxo FS
              go_upto_region 13 with (fail)
              go_quiet (fail)
              go_wp2_with fail
              go_roundw
              case rel =>
                refine ⟨j + 1, l2, by omega, by go_num, ?_, ?_, below_drewN HB2.out _⟩
                · rw [HLn.out]; exact owns_on HO2.out (below_drewN (Below.refl _ _) _)
                · show l2 = _
                  rw [FS2.out]
              case measure => simp [intOf]; omega
        · have hjn : ¬ (j : Int) < (nqz : Int) := by omega
          have HLE := hide (show l2 = rts c by
            have e : c.qu.take j = c.qu := List.take_of_length_le (by rw [Hnq.out]; omega)
            have := HL2.out
            rw [e] at this
            exact this)
          go_wp2_with fail
          go_ret
          rw [← HLE.out]
          exact ⟨_, _, rfl, owns_low HO2.out (by omega), HB0.out.trans (HB2.out.mono (by omega))⟩
end Gr
end Go.Proofs.Ytlbcjolbgeficaa
