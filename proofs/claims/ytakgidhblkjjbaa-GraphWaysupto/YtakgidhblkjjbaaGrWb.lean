/-
  Graph: the document's nearest
-/
import Derived.Test.YtakgidhblkjjbaaGrRc
import Derived.Test.YtakgidhblkjjbaaGrWn
namespace Go.Proofs.Ytakgidhblkjjbaa
open Go.RowKit
set_option linter.unusedVariables false
set_option linter.unusedSimpArgs false
set_option linter.unnecessarySimpa false
set_option maxRecDepth 20000
namespace Gr
/-- Of the handles so far the nearest. -/
def ner (os : List Ob) (D : Nat → Int) (b : Nat) (h : Int) : Nat :=
  if gd os h = 0 ∨ D (gd os h - 1) < 0 then b else if b = 0 ∨ D (gd os h - 1) < D (b - 1) ∨ (D (gd os h - 1) = D (b - 1) ∧ gd os h < b) then gd os h else b
def nears (os : List Ob) (D : Nat → Int) (l : List Int) : Nat := l.foldl (ner os D) 0
theorem nears_snoc (os : List Ob) (D : Nat → Int) (l : List Int) (h : Int) : nears os D (l ++ [h]) = ner os D (nears os D l) h := by simp [nears]
theorem nears_le (os : List Ob) (D : Nat → Int) (l : List Int) : nears os D l ≤ os.length := by
  have : ∀ (l : List Int) (b : Nat), b ≤ os.length → l.foldl (ner os D) b ≤ os.length := by
    intro l
    induction l with
    | nil => intro b hb; exact hb
    | cons x l ih =>
      intro b hb
      refine ih _ ?_
      unfold ner
      split
      · exact hb
      · split
        · exact gd_le _ _
        · exact hb
  exact this l 0 (Nat.zero_le _)

set_option maxHeartbeats 8000000 in
theorem nearest_ok {c : Vc} {a : Av} {w : World} {fa' : Option Addr} {fc : Nat} {l : List Int} {D : Nat → Int} {gD : Nat} (hS : Sob w a.oa c.os) (hL : SeesU w fa' l) (hB : Bd c.os) (hW : Wd l) (hll : l.length ≤ 35184372088832) (hD : w.rowIs gD 3 c.os.length (fun i => .int .i64 (D i))) :
    Calls Try.prog 36 #[vl c a, .slice fa' l.length fc, .slice (some ⟨gD, 0, none⟩) c.os.length c.os.length] w fun e w' => e = .returned (.int .i64 (nears c.os D l : Nat)) ∧ Below w.heap.size w w' := by
  obtain ⟨W0, hW0, B0, R0⟩ := vbox w c a
  have VF := hide (fun (wx : World) (hb : Below W0.heap.size W0 wx) => vcells (row_on R0 hb))
  have HB0 := hide B0
  have HS0 := hide (hS.below B0)
  have HL0 := hide (hL.below B0)
  have HD0 := hide (row_on hD B0)
  have l0 : w.heap.size < W0.heap.size := R0.lt
  have GO := hide (fun (w1 : World) (h1 : Sob w1 a.oa c.os) (u : Int) (h2 : 0 ≤ u ∧ u < 18446744073709551616) => goodr_ok (a := a) h1 hB h2.1 h2.2)
  have HWd1 := hide hW
  have hno := hB.no
  clear hS hB hL hW B0 R0 hD
  obtain ⟨ph, co, ro, aa, na, ca, ra, cr, wa, nw, cw, oa, cb, fa, nf, cf, ga, ng, cg, qa, cq, k0, k1, k2, k3⟩ := a
  simp only [vl] at GO ⊢
  simp only at hW0 VF GO HS0
  obtain ⟨n, hn⟩ : ∃ n, c.os.length = n := ⟨_, rfl⟩
  obtain ⟨nr, hnre⟩ : ∃ nr, c.rs.length = nr := ⟨_, rfl⟩
  obtain ⟨nqz, hnqe⟩ : ∃ nqz, c.qu.length = nqz := ⟨_, rfl⟩
  obtain ⟨N, hN⟩ : ∃ N, l.length = N := ⟨_, rfl⟩
  simp only [hn, hnre, hnqe, hN] at hW0 VF GO hno hll HD0 ⊢
  obtain ⟨os, hos⟩ : ∃ os, c.os = os := ⟨_, rfl⟩
  rw [hos] at HS0 hn
  simp only [hos] at GO ⊢
  have Hn := hide hn
  have HN := hide hN
  clear hn hnre hnqe hN hos
  go_enter Try.func36, Try.ntmps36
  go_wp2_with fail
  clear hW0
  go_loopw [7, 8] (fun bv i wr => ∃ k : Nat, k ≤ N ∧ i = .int .i64 k ∧ bv = .int .i64 (nears os D (l.take k) : Nat) ∧ Hid (Below W0.heap.size W0 wr)) (fun _ i _ => N - (intOf i).toNat)
  case atStart => exact ⟨0, Nat.zero_le _, rfl, rfl, by show Below _ W0 W0; exact Below.refl _ _⟩
  case round =>
    obtain ⟨k, hk, rfl, rfl, HBw⟩ := hrel
    by_cases hlt1 : k < N
    · have hkn : (k : Int) < (N : Int) := by omega
      obtain ⟨u, hu⟩ : ∃ u, l[k]? = some u := ⟨l[k]'(by rw [HN.out]; exact hlt1), by simp [HN.out, hlt1]⟩
      have hwu := HWd1.out u (List.mem_of_getElem? hu)
      obtain ⟨b1, off1, hao1, hbl, hcc⟩ := HL0.out.below HBw.out k u hu
      subst hao1
      have D1 : Below W0.heap.size W0 wr.drew := ⟨HBw.out.os, HBw.out.tape, HBw.out.output, HBw.out.size, HBw.out.block⟩
      have K0 := VF.out wr.drew D1
      have hcd : wr.drew.cell? ⟨b1, off1 + k, none⟩ = some (.int .u64 u) := hcc
      have GX := hide (GO.out wr.drew (HS0.out.below D1) u hwu)
      have TK := hide (show nears os D (l.take (k + 1)) = ner os D (nears os D (l.take k)) u by rw [List.take_add_one, hu]; exact nears_snoc _ _ _ _)
      have TL : nears os D (l.take k) ≤ n := by rw [← Hn.out]; exact nears_le _ _ _
      obtain ⟨t, ht⟩ : ∃ t, nears os D (l.take k) = t := ⟨_, rfl⟩
      rw [ht] at TK TL ⊢
      clear ht
      obtain ⟨m, hm⟩ : ∃ m, gd os u = m := ⟨_, rfl⟩
      have hmn : m ≤ n := by rw [← hm, ← Hn.out]; exact gd_le _ _
      rw [hm] at GX
      have TK2 := hide (show nears os D (l.take (k + 1)) = if m = 0 ∨ D (m - 1) < 0 then t else if t = 0 ∨ D (m - 1) < D (t - 1) ∨ (D (m - 1) = D (t - 1) ∧ m < t) then m else t by rw [TK.out, ner, hm])
      clear hu hm hwu TK
      go_upto_region 5 with (fail)
      go_region_held (fun w' => w'.cell? ⟨w.heap.size, 0, none⟩ = some (.int .i64 ph) ∧ w'.cell? ⟨w.heap.size, 1, none⟩ = some (.int .i64 co) ∧ w'.cell? ⟨w.heap.size, 2, none⟩ = some (.int .u64 ro) ∧ w'.cell? ⟨w.heap.size, 3, none⟩ = some (.slice aa na ca) ∧ w'.cell? ⟨w.heap.size, 4, none⟩ = some (.slice ra nr cr) ∧ w'.cell? ⟨w.heap.size, 5, none⟩ = some (.slice wa nw cw) ∧ w'.cell? ⟨w.heap.size, 6, none⟩ = some (.slice oa n cb) ∧ w'.cell? ⟨w.heap.size, 7, none⟩ = some (.slice fa nf cf) ∧ w'.cell? ⟨w.heap.size, 8, none⟩ = some (.slice ga ng cg) ∧ w'.cell? ⟨w.heap.size, 9, none⟩ = some (.slice qa nqz cq) ∧ w'.cell? ⟨w.heap.size, 10, none⟩ = some (.int .u64 k0) ∧ w'.cell? ⟨w.heap.size, 11, none⟩ = some (.int .u64 k1) ∧ w'.cell? ⟨w.heap.size, 12, none⟩ = some (.int .u64 k2) ∧ w'.cell? ⟨w.heap.size, 13, none⟩ = some (.int .u64 k3) ∧ w'.cell? ⟨b1, off1 + k, none⟩ = some (.int .u64 u)) (first | exact ⟨K0.1, K0.2.1, K0.2.2.1, K0.2.2.2.1, K0.2.2.2.2.1, K0.2.2.2.2.2.1, K0.2.2.2.2.2.2.1, K0.2.2.2.2.2.2.2.1, K0.2.2.2.2.2.2.2.2.1, K0.2.2.2.2.2.2.2.2.2.1, K0.2.2.2.2.2.2.2.2.2.2.1, K0.2.2.2.2.2.2.2.2.2.2.2.1, K0.2.2.2.2.2.2.2.2.2.2.2.2.1, K0.2.2.2.2.2.2.2.2.2.2.2.2.2, hcd⟩ | exact ⟨K1.1, K1.2.1, K1.2.2.1, K1.2.2.2.1, K1.2.2.2.2.1, K1.2.2.2.2.2.1, K1.2.2.2.2.2.2.1, K1.2.2.2.2.2.2.2.1, K1.2.2.2.2.2.2.2.2.1, K1.2.2.2.2.2.2.2.2.2.1, K1.2.2.2.2.2.2.2.2.2.2.1, K1.2.2.2.2.2.2.2.2.2.2.2.1, K1.2.2.2.2.2.2.2.2.2.2.2.2.1, K1.2.2.2.2.2.2.2.2.2.2.2.2.2, hc1⟩) ((go_at_call 30; refine GX.out.mono ?_; rintro e w1 ⟨rfl, hb⟩; have HB1 := hide hb; have K1 := VF.out w1 (D1.trans (hb.mono D1.size)); have hc1 : w1.cell? ⟨b1, off1 + k, none⟩ = some (.int .u64 u) := (hb.cell (p := ⟨b1, off1 + k, none⟩) hbl).trans hcd; clear hb))
      have D2 : Below wr.heap.size wr w1 := ⟨HB1.out.os, HB1.out.tape, HB1.out.output, HB1.out.size, HB1.out.block⟩
      have HBz := hide (show Below W0.heap.size W0 w1 from HBw.out.trans (D2.mono HBw.out.size))
      have HA1 := hide (row_on HD0.out HBz.out)
      clear K0 K1 hcd hc1 D1 D2 hcc GX
      by_cases hm0 : m = 0
      · subst hm0
        go_wp2_with fail
        go_roundw
        case rel => exact ⟨k + 1, by omega, by go_num, by rw [TK2.out]; simp, HBz.out⟩
        case measure => simp [intOf]; omega
      · obtain ⟨q, rfl⟩ : ∃ q, m = q + 1 := ⟨m - 1, by omega⟩
        have hq : q < n := by omega
        have hq2 : (q : Int) < (n : Int) := by omega
        have cA := HA1.out.cell hq
        simp only [Nat.add_sub_cancel] at TK2
        by_cases hd0 : D q < 0
        · have TK3 := hide (show nears os D (l.take (k + 1)) = t by rw [TK2.out, if_pos (.inr hd0)])
          obtain ⟨dq, hdq⟩ : ∃ dq, D q = dq := ⟨_, rfl⟩
          rw [hdq] at cA hd0
          clear TK2
          go_wp2_with fail
          go_roundw
          case rel => exact ⟨k + 1, by omega, by go_num, by rw [TK3.out], HBz.out⟩
          case measure => simp [intOf]; omega
        · have TK3 := hide (show nears os D (l.take (k + 1)) = if t = 0 ∨ D q < D (t - 1) ∨ (D q = D (t - 1) ∧ q + 1 < t) then q + 1 else t by rw [TK2.out, if_neg (by omega)])
          obtain ⟨dq, hdq⟩ : ∃ dq, D q = dq := ⟨_, rfl⟩
          rw [hdq] at cA hd0 TK3
          clear TK2
          go_upto_region 7 with (fail)
          by_cases ht0 : t = 0
          · subst ht0
            go_quiet (fail)
            go_wp2_with fail
            go_roundw
            case rel => exact ⟨k + 1, by omega, by go_num, by rw [TK3.out]; simp, below_drewN HBz.out _⟩
            case measure => simp [intOf]; omega
          · obtain ⟨r, rfl⟩ : ∃ r, t = r + 1 := ⟨t - 1, by omega⟩
            have hr : r < n := by omega
            have hr2 : (r : Int) < (n : Int) := by omega
            have cR := HA1.out.cell hr
            simp only [Nat.add_sub_cancel] at TK3
            obtain ⟨dr, hdr⟩ : ∃ dr, D r = dr := ⟨_, rfl⟩
            rw [hdr] at cR TK3
            have z0 : ((r : Int) + 1 == 0) = false := (by simp; omega)
            have z1 : (((r + 1 : Nat) : Int) == 0) = false := (by simp; omega)
            have w1q : IntKind.i64.wrap (q : Int) = (q : Int) := by rw [IntKind.wrap_i64]; omega
            have w1r : IntKind.i64.wrap (r : Int) = (r : Int) := by rw [IntKind.wrap_i64]; omega
            by_cases c1 : dq < dr
            · have g1 : decide (dq < dr) = true := by simp [c1]
              go_quiet (fail)
              go_wp2_with fail
              go_roundw
              case rel => exact ⟨k + 1, by omega, by go_num, by rw [TK3.out, if_pos (by omega)]; simp, below_drewN HBz.out _⟩
              case measure => simp [intOf]; omega
            · by_cases c2 : dq = dr
              · subst c2
                by_cases c3 : q + 1 < r + 1
                · have g1 : decide (dq < dq) = false := by simp
                  have g2 : (dq == dq) = true := by simp
                  have g3 : decide ((q : Int) + 1 < (r : Int) + 1) = true := (by simp; omega)
                  go_quiet (fail)
                  go_wp2_with fail
                  go_roundw
                  case rel => exact ⟨k + 1, by omega, by go_num, by rw [TK3.out, if_pos (by omega)]; simp, below_drewN HBz.out _⟩
                  case measure => simp [intOf]; omega
                · have g1 : decide (dq < dq) = false := by simp
                  have g2 : (dq == dq) = true := by simp
                  have g3 : decide ((q : Int) + 1 < (r : Int) + 1) = false := (by simp; omega)
                  go_quiet (fail)
                  go_wp2_with fail
                  go_roundw
                  case rel => exact ⟨k + 1, by omega, by go_num, by rw [TK3.out, if_neg (by omega)], below_drewN HBz.out _⟩
                  case measure => simp [intOf]; omega
              · have g1 : decide (dq < dr) = false := (by simp; omega)
                have g2 : (dq == dr) = false := by simp [c2]
                go_quiet (fail)
                go_wp2_with fail
                go_roundw
                case rel => exact ⟨k + 1, by omega, by go_num, by rw [TK3.out, if_neg (by omega)], below_drewN HBz.out _⟩
                case measure => simp [intOf]; omega
    · have hkn : ¬ (k : Int) < (N : Int) := by omega
      have e0 : l.take k = l := List.take_of_length_le (by rw [HN.out]; omega)
      rw [e0]
      go_wp2_with fail
      go_ret
      exact ⟨rfl, HB0.out.trans (HBw.out.mono HB0.out.size)⟩
end Gr
end Go.Proofs.Ytakgidhblkjjbaa
