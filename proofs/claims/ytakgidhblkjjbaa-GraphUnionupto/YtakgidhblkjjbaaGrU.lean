/-
  Graph: GraphUnion's walk
-/
import Derived.Test.YtakgidhblkjjbaaGrL
import Derived.Test.YtakgidhblkjjbaaGrRc
import Derived.Test.YtakgidhblkjjbaaGrU0
namespace Go.Proofs.Ytakgidhblkjjbaa
open Go.RowKit
set_option linter.unusedVariables false
set_option linter.unusedSimpArgs false
set_option linter.unnecessarySimpa false
set_option maxRecDepth 20000
namespace Gr
theorem step_append_opt {P : Program} {ops : Array Oper} {o : Oper} {a : Act} {w : World} {K : Act → World → Prop} {Q : Exit → Act → World → Prop} {E : Prop}
    (hg : o.guard = none) (s x : Operand) (t : TypeId) (hop : o.op = Op.call { callee := Callee.builtin Builtin.append, args := #[s, x], argTypes := #[t, t] })
    (base : Nat) (e : TypeId) (z : Value) (size bytes : Nat) (ht : P.underlying t = some (.slice e)) (hi : (P.info? e).map (fun i => (i.zero, i.size, i.bytes)) = some (some z, size, bytes))
    (hzs : z.cells.size = size) (hsz : 0 < size)
    (v : Value) (n : Nat) (xs : List Value) (hs : a.eval s = v) (hown : w.ownsRow base e size v n xs)
    (ao : Option Addr) (m c : Nat) (news : List Value) (hx : a.eval x = .slice ao m c) (hnil : ao = none → m = 0 ∧ c = 0) (hl : news.length = m * size) (hnews : ∀ ad, ao = some ad → ∀ j u, news[j]? = some u → w.cell? (ad.add j) = some u) (h1 : ∀ u ∈ news, u.oneCell' = true)
    (h63 : n + m ≤ maxLen) (hbytes : (n + m) * bytes ≤ 140737488355328) (hbase : base ≤ w.heap.size)
    (h : ∀ v' w', w'.ownsRow base e size v' (n + m) (xs ++ news) → w.grownBy w' v.ownBlock → K (a.put o.dst v') w') :
    if Region.wanted o (yielded ops a.tmps) = true then Oper.wp P o a w K Q else E := by
  cases ao with
  | some ad => exact step_append_at hg s x t hop base e z size bytes ht hi hzs hsz v n xs hs hown ad m c news hx hl (hnews ad rfl) h1 h63 hbytes hbase (fun v' w' h2 h3 _ => h v' w' h2 h3)
  | none =>
    obtain ⟨rfl, rfl⟩ := hnil rfl
    have hn : news = [] := by simpa using hl
    subst hn
    obtain ⟨i, hi1, hi2⟩ : ∃ i, P.info? e = some i ∧ (i.zero, i.size, i.bytes) = (some z, size, bytes) := by
      cases hp : P.info? e with
      | none => rw [hp] at hi; cases hi
      | some i => rw [hp] at hi; exact ⟨i, rfl, by simpa using hi⟩
    have hw : Region.wanted o (yielded ops a.tmps) = true := by simp [Region.wanted, hg]
    rw [if_pos hw]
    have hrun := run_append_owned_none (P := P) (w := w) base t o.type e i size ht hi1 v n xs hown
    unfold Oper.wp
    simp [execOp, hop, resolve, invoke, builtin, hs, hx, hrun, Result.andThen]
    exact h v w (by simpa using hown) (grown_refl _ _)
theorem rb_app (os : List Ob) (a b : List Int) (i : Nat) : rb os (a ++ b) i = (rb os a i || rb os b i) := by
  have h1 := rb_iff os (a ++ b) i
  have h2 := rb_iff os a i
  have h3 := rb_iff os b i
  rw [Rc.app] at h1
  cases hA : rb os a i <;> cases hB : rb os b i <;> cases hC : rb os (a ++ b) i <;> simp_all

set_option maxHeartbeats 8000000 in
theorem union_walk {c : Vc} {a : Av} {w : World} {xa ya : Option Addr} {xc yc : Nat} {x y : List Int} (hS : Shows w c a) (hB : Bd c.os) (hX : SeesU w xa x) (hY : SeesU w ya y) (hWx : Wd x) (hWy : Wd y) (hxc : xa = none → xc = 0) (hyc : ya = none → yc = 0) (hll : x.length + y.length ≤ 17592186044415) :
    Calls Try.prog 6 #[vl c a, .slice xa x.length xc, .slice ya y.length yc] w fun e w' => e = .returned (.bool true) ∧ Below w.heap.size w w' := by
  obtain ⟨W0, hW0, B0, R0⟩ := vbox w c a
  have VF := hide (fun (wx : World) (hb : Below W0.heap.size W0 wx) => vcells (row_on R0 hb))
  have HB0 := hide B0
  have HS0 := hide (hS.below B0)
  have HX0 := hide (hX.below B0)
  have HY0 := hide (hY.below B0)
  have l0 : w.heap.size < W0.heap.size := R0.lt
  have RX := hide (fun (w1 : World) (h1 : Below W0.heap.size W0 w1) => reach_ok (fc := xc) (a := a) (HS0.out.below h1).ob (HX0.out.below h1) hB hWx (by omega))
  have RY := hide (fun (w1 : World) (h1 : Below W0.heap.size W0 w1) => reach_ok (fc := yc) (a := a) (HS0.out.below h1).ob (HY0.out.below h1) hB hWy (by omega))
  have RZ := hide (fun (w1 : World) (h1 : Below W0.heap.size W0 w1) (ao : Option Addr) (cp : Nat) (h2 : SeesU w1 ao (x ++ y)) => reach_ok (fc := cp) (a := a) (HS0.out.below h1).ob h2 hB (fun u hu => (List.mem_append.1 hu).elim (hWx u) (hWy u)) (by rw [List.length_append]; omega))
  have NX := hide (fun h => (⟨nil_len hX h, hxc h⟩ : x.length = 0 ∧ xc = 0))
  have NY := hide (fun h => (⟨nil_len hY h, hyc h⟩ : y.length = 0 ∧ yc = 0))
  have hno := hB.no
  clear hS hB hX hY hWx hWy B0 R0 hxc hyc
  obtain ⟨ph, co, ro, aa, na, ca, ra, cr, wa, nw, cw, oa, cb, fa, nf, cf, ga, ng, cg, qa, cq, k0, k1, k2, k3⟩ := a
  simp only [vl] at RX RY RZ ⊢
  simp only at hW0 VF RX RY RZ
  obtain ⟨n, hn⟩ : ∃ n, c.os.length = n := ⟨_, rfl⟩
  obtain ⟨nr, hnre⟩ : ∃ nr, c.rs.length = nr := ⟨_, rfl⟩
  obtain ⟨nq, hnqe⟩ : ∃ nq, c.qu.length = nq := ⟨_, rfl⟩
  obtain ⟨NA, hNA⟩ : ∃ NA, x.length = NA := ⟨_, rfl⟩
  obtain ⟨NB, hNB⟩ : ∃ NB, y.length = NB := ⟨_, rfl⟩
  simp only [List.length_append, hn, hnre, hnqe, hNA, hNB] at hW0 VF RX RY RZ NX NY hno hll ⊢
  have HA := hide hNA
  have HBl := hide hNB
  clear hn hnre hnqe hNA hNB
  have AL := hide (fun w1 => alive_ok w1)
  go_enter Try.func6, Try.ntmps6
  go_upto_region 3 with (go_at_call 9; refine (AL.out _).mono ?_; rintro e w1 ⟨rfl, hb⟩; have HB1 := hide hb; clear hb)
  clear hW0 AL
  have D1 : Below W0.heap.size W0 w1.drew := ⟨HB1.out.os, HB1.out.tape, HB1.out.output, HB1.out.size, HB1.out.block⟩
  have K0 := VF.out w1.drew D1
  have RX1 := hide (RX.out _ D1)
  go_region_held (fun w' => w'.cell? ⟨w.heap.size, 0, none⟩ = some (.int .i64 ph) ∧ w'.cell? ⟨w.heap.size, 1, none⟩ = some (.int .i64 co) ∧ w'.cell? ⟨w.heap.size, 2, none⟩ = some (.int .u64 ro) ∧ w'.cell? ⟨w.heap.size, 3, none⟩ = some (.slice aa na ca) ∧ w'.cell? ⟨w.heap.size, 4, none⟩ = some (.slice ra nr cr) ∧ w'.cell? ⟨w.heap.size, 5, none⟩ = some (.slice wa nw cw) ∧ w'.cell? ⟨w.heap.size, 6, none⟩ = some (.slice oa n cb) ∧ w'.cell? ⟨w.heap.size, 7, none⟩ = some (.slice fa nf cf) ∧ w'.cell? ⟨w.heap.size, 8, none⟩ = some (.slice ga ng cg) ∧ w'.cell? ⟨w.heap.size, 9, none⟩ = some (.slice qa nq cq) ∧ w'.cell? ⟨w.heap.size, 10, none⟩ = some (.int .u64 k0) ∧ w'.cell? ⟨w.heap.size, 11, none⟩ = some (.int .u64 k1) ∧ w'.cell? ⟨w.heap.size, 12, none⟩ = some (.int .u64 k2) ∧ w'.cell? ⟨w.heap.size, 13, none⟩ = some (.int .u64 k3)) (first | exact K0 | exact K1 | exact K2) (first
    | (go_at_call_of 11 (Value.slice xa NA xc); refine RX1.out.mono ?_; rintro e w2 ⟨g2, rfl, hg, hr, hb⟩; have HR2 := hide hr; have B2 := hide (D1.trans (hb.mono D1.size)); have K1 := VF.out w2 B2.out; have RY2 := hide (RY.out _ B2.out); clear hr hb hg)
    | (go_at_call 11; refine RY2.out.mono ?_; rintro e w3 ⟨g3, rfl, hg, hr, hb⟩; have HR3 := hide hr; have HR23 := hide (row_on HR2.out hb); have B3 := hide (B2.out.trans (hb.mono B2.out.size)); have K2 := VF.out w3 B3.out; clear hr hb hg))
  clear K0 K1 K2
  go_upto_region 4 with (fail)
  obtain ⟨z, hz⟩ : ∃ z, w3.heap.size = z := ⟨_, rfl⟩
  have Hz := hide hz
  have hW0z : W0.heap.size ≤ z := by rw [← hz]; exact B3.out.size
  have D3 : Below W0.heap.size W0 w3.drew := ⟨B3.out.os, B3.out.tape, B3.out.output, B3.out.size, B3.out.block⟩
  have K0 := VF.out w3.drew D3
  have hA3 := hide ((Below.refl w3.heap.size w3).alloc (Nat.le_refl _) (.cells #[] 22))
  obtain ⟨WA, hWA⟩ : ∃ WA, (w3.alloc (.cells #[] 22)).drew = WA := ⟨_, rfl⟩
  have DA := hide (show Below z w3 WA by rw [← hWA, ← hz]; exact ⟨hA3.out.os, hA3.out.tape, hA3.out.output, hA3.out.size, hA3.out.block⟩)
  have DA0 := hide (show Below W0.heap.size W0 WA from B3.out.trans (DA.out.mono hW0z))
  have K1 := VF.out WA DA0.out
  have OL := hide (show WA.ownsRow z 22 1 (.slice (some ⟨z, 0, none⟩) 0 0) 0 [] by
    rw [← hWA, ← hz]
    have := World.ownsRow_lit (base := w3.heap.size) (e := 22) (size := 1) w3 #[] 0 (by simp) (by unfold maxLen; omega) rfl
    have h2 : (w3.alloc (.cells #[] 22)).ownsRow w3.heap.size 22 1 (.slice (some ⟨w3.heap.size, 0, none⟩) 0 0) 0 [] := by simpa using this
    exact h2)
  have sWA : z ≤ WA.heap.size := by rw [← hWA]; simp; omega
  have NEWX := hide (news_u (HX0.out.below DA0.out))
  rw [← hWA] at K1
  have OL2 := hide OL.out
  have NEWX2 := hide NEWX.out
  rw [← hWA] at OL2 NEWX2
  have sWA2 := sWA
  rw [← hWA] at sWA2
  have HWA := hide hWA
  clear D3 hWA
  go_region_held_law (fun w' => w'.cell? ⟨w.heap.size, 0, none⟩ = some (.int .i64 ph) ∧ w'.cell? ⟨w.heap.size, 1, none⟩ = some (.int .i64 co) ∧ w'.cell? ⟨w.heap.size, 2, none⟩ = some (.int .u64 ro) ∧ w'.cell? ⟨w.heap.size, 3, none⟩ = some (.slice aa na ca) ∧ w'.cell? ⟨w.heap.size, 4, none⟩ = some (.slice ra nr cr) ∧ w'.cell? ⟨w.heap.size, 5, none⟩ = some (.slice wa nw cw) ∧ w'.cell? ⟨w.heap.size, 6, none⟩ = some (.slice oa n cb) ∧ w'.cell? ⟨w.heap.size, 7, none⟩ = some (.slice fa nf cf) ∧ w'.cell? ⟨w.heap.size, 8, none⟩ = some (.slice ga ng cg) ∧ w'.cell? ⟨w.heap.size, 9, none⟩ = some (.slice qa nq cq) ∧ w'.cell? ⟨w.heap.size, 10, none⟩ = some (.int .u64 k0) ∧ w'.cell? ⟨w.heap.size, 11, none⟩ = some (.int .u64 k1) ∧ w'.cell? ⟨w.heap.size, 12, none⟩ = some (.int .u64 k2) ∧ w'.cell? ⟨w.heap.size, 13, none⟩ = some (.int .u64 k3)) (first | exact K0 | exact K1 | exact K2 | exact K3 | exact K4) (first
    | (refine step_append_opt rfl (.tmp 20) (.tmp 21) 23 rfl z 22 (.int .u64 0) 1 8 Try.underlying23 infoUz rfl (by decide) (.slice (some ⟨z, 0, none⟩) 0 0) 0 [] (by simp [Act.eval, Act.put, hz]) OL2.out xa NA xc (ucs x) (by simp [Act.eval, Act.put]) NX.out (by rw [ucs_len, HA.out]; omega) NEWX2.out (ucs_one _) (by unfold maxLen; omega) (by omega) sWA2 ?_; intro v4 w4 hown hgr; rw [Nat.zero_add, List.nil_append] at hown; obtain ⟨la4, cp4, rfl⟩ := own_slice hown; have HO4 := hide hown; have B4 := hide (show Below z w3 w4 from below_grown DA.out OL.out (by rw [← HWA.out]; exact hgr) sWA); have B40 := hide (show Below W0.heap.size W0 w4 from B3.out.trans (B4.out.mono hW0z)); have K2 := VF.out w4 B40.out; have NEWY := hide (news_u (HY0.out.below B40.out)); have s4 : z ≤ w4.heap.size := (by have := B4.out.size; rw [Hz.out] at this; exact this); clear hown hgr)
    | (refine step_append_opt rfl (.tmp 22) (.tmp 23) 23 rfl z 22 (.int .u64 0) 1 8 Try.underlying23 infoUz rfl (by decide) (.slice la4 NA cp4) NA (ucs x) (by simp [Act.eval, Act.put]) HO4.out ya NB yc (ucs y) (by simp [Act.eval, Act.put]) NY.out (by rw [ucs_len, HBl.out]; omega) NEWY.out (ucs_one _) (by unfold maxLen; omega) (by omega) s4 ?_; intro v5 w5 hown hgr; rw [← ucs_app] at hown; obtain ⟨la5, cp5, rfl⟩ := own_slice hown; have B5 := hide (show Below z w3 w5 from below_grown B4.out HO4.out hgr s4); have B50 := hide (show Below W0.heap.size W0 w5 from B3.out.trans (B5.out.mono hW0z)); have K3 := VF.out w5 B50.out; have RZ5 := hide (RZ.out w5 B50.out la5 cp5 (own_seesU hown)); clear hown hgr)
    | (go_at_call 11; refine RZ5.out.mono ?_; rintro e w6 ⟨g6, rfl, hg, hr, hb⟩; have HR6 := hide hr; have B60 := hide (B50.out.trans (hb.mono B50.out.size)); have HR26 := hide (row_on (row_on HR23.out (show Below w3.heap.size w3 w5 by rw [Hz.out]; exact B5.out)) hb); have HR36 := hide (row_on (row_on HR3.out (show Below w3.heap.size w3 w5 by rw [Hz.out]; exact B5.out)) hb); have K4 := VF.out w6 B60.out; clear hr hb hg))
  have c6 := K4.2.2.2.2.2.2.1
  have RBA := hide (fun i => rb_app c.os x y i)
  clear K0 K1 K2 K3 K4
  go_wp2_with fail
  clear c6
  go_loopw [10] (fun i wr => ∃ k m : Nat, k ≤ n ∧ i = .int .i64 k ∧ wr = w6.drewN m) (fun i _ => n - (intOf i).toNat)
  case atStart => exact ⟨0, 0, Nat.zero_le _, rfl, rfl⟩
  case round =>
    obtain ⟨k, m, hk, rfl, rfl⟩ := hrel
    by_cases hlt : k < n
    · have hkn : (k : Int) < (n : Int) := by omega
      have d2 := HR26.out.cell hlt
      have d3 := HR36.out.cell hlt
      have d6 := HR6.out.cell hlt
      have AP := RBA.out k
      obtain ⟨x2, hx2⟩ : ∃ x2, rb c.os x k = x2 := ⟨_, rfl⟩
      obtain ⟨x3, hx3⟩ : ∃ x3, rb c.os y k = x3 := ⟨_, rfl⟩
      rw [AP] at d6
      rw [hx2] at d2 d6
      rw [hx3] at d3 d6
      clear AP hx2 hx3
      go_upto_region 10 with (fail)
      cases x2
      · cases x3
        · simp only [Bool.or_false, Bool.or_self] at d6
          go_quiet (fail)
          go_wp2_with fail
          go_roundw
          case rel => exact ⟨k + 1, _, by omega, by go_num, rfl⟩
          case measure => simp [intOf]; omega
        · simp only [Bool.or_true, Bool.false_or] at d6
          go_quiet (fail)
          go_wp2_with fail
          go_roundw
          case rel => exact ⟨k + 1, _, by omega, by go_num, rfl⟩
          case measure => simp [intOf]; omega
      · simp only [Bool.true_or] at d6
        go_quiet (fail)
        go_wp2_with fail
        go_roundw
        case rel => exact ⟨k + 1, _, by omega, by go_num, rfl⟩
        case measure => simp [intOf]; omega
    · have hkn : ¬ (k : Int) < (n : Int) := by omega
      go_wp2_with fail
      go_ret
      exact ⟨rfl, below_drewN (HB0.out.trans (B60.out.mono HB0.out.size)) _⟩
end Gr
end Go.Proofs.Ytakgidhblkjjbaa
