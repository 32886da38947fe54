/-
  Graph: the document's far
-/
import Derived.Test.YtakgidhblkjjbaaGrRc
import Derived.Test.YtakgidhblkjjbaaGrWf
namespace Go.Proofs.Ytakgidhblkjjbaa
open Go.RowKit
set_option linter.unusedVariables false
set_option linter.unusedSimpArgs false
set_option linter.unnecessarySimpa false
set_option maxRecDepth 20000
namespace Gr
def fnds (os : List Ob) (n : Nat) (D : Nat → Int) : Nat → Bool
  | 0 => false
  | k + 1 => fnds os n D k || fnd os n D k
theorem fnds_none {os : List Ob} {n : Nat} {D : Nat → Int} : ∀ {i : Nat}, fnds os n D i = false → ∀ k, k < i → fnd os n D k = false
  | 0, _, k, hk => by omega
  | i + 1, h, k, hk => by
    simp [fnds] at h
    by_cases e : k = i
    · subst e; exact h.2
    · exact fnds_none h.1 k (by omega)
theorem fnds_some {os : List Ob} {n : Nat} {D : Nat → Int} : ∀ {i : Nat}, fnds os n D i = true → ∃ k, k < i ∧ fnd os n D k = true
  | 0, h => by cases h
  | i + 1, h => by
    simp [fnds] at h
    rcases h with h | h
    · obtain ⟨k, h1, h2⟩ := fnds_some h
      exact ⟨k, by omega, h2⟩
    · exact ⟨i, by omega, h⟩
/-- What far tells. -/
def FarD (os : List Ob) (tg : Int) (D : Nat → Int) : Prop :=
  ((∀ k, D k = -1) ∧ ¬ ∃ q : Nat, tg = (q : Int) + 1 ∧ usA os q = true) ∨ ∃ (q n : Nat), tg = (q : Int) + 1 ∧ usA os q = true ∧ Fd os tg n D ∧ ∀ k, k < os.length → fnd os n D k = false
def Fw (w w' : World) (e : Ending) (os : List Ob) (tg : Int) (n : Nat) : Prop := ∃ (D : Nat → Int) (g : Nat), FarD os tg D ∧ e = .returned (.slice (some ⟨g, 0, none⟩) n n) ∧ w.heap.size ≤ g ∧ w'.rowIs g 3 n (fun i => .int .i64 (D i)) ∧ Below w.heap.size w w'
theorem upd_at {os : List Ob} {n : Nat} {D : Nat → Int} {i : Nat} : upd os n D i i = D i := by unfold upd; rw [if_neg (by omega)]
theorem upd_eqn {os : List Ob} {n : Nat} {D : Nat → Int} {i k : Nat} (hD : -1 ≤ D k) : upd os n D i k = (n : Int) ↔ D k = (n : Int) := by
  unfold upd
  split
  · rename_i h
    have h2 := h.2
    simp [fnd] at h2
    constructor <;> intro e <;> omega
  · exact Iff.rfl
theorem upd_skip {os : List Ob} {n : Nat} {D : Nat → Int} {i : Nat} (h : fnd os n D i = false) : upd os n D (i + 1) = upd os n D i := by
  funext k
  unfold upd
  by_cases e : k = i
  · subst e; simp [h]
  · have : k < i + 1 ↔ k < i := by omega
    simp [this]
theorem upd_next {os : List Ob} {n : Nat} {D : Nat → Int} {i : Nat} (k : Nat) : (if k = i ∧ fnd os n D i = true then (n : Int) + 1 else upd os n D i k) = upd os n D (i + 1) k := by
  unfold upd
  by_cases e : k = i
  · subst e; simp
  · have : k < i + 1 ↔ k < i := by omega
    simp [e, this]

set_option maxHeartbeats 8000000 in
theorem far_ok {c : Vc} {a : Av} {w : World} (hS : Sob w a.oa c.os) (hB : Bd c.os) (tg : Int) :
    Calls Try.prog 35 #[vl c a, .int .i64 tg] w fun e w' => Fw w w' e c.os tg c.os.length := by
  have hmk := run_make_row' (P := Try.prog) 26 3 _ 8 Try.underlying26 infoN rfl .i64 .i64 c.os.length (by have := hB.no; omega) (by have := hB.no; omega)
  obtain ⟨W0, hW0, B0, R0⟩ := vbox w c a
  have VF := hide (fun (wx : World) (hb : Below W0.heap.size W0 wx) => vcells (row_on R0 hb))
  have HB0 := hide B0
  have HS0 := hide (hS.below B0)
  have l0 : w.heap.size < W0.heap.size := R0.lt
  have GO := hide (fun (w1 : World) (h1 : Sob w1 a.oa c.os) (u : Int) (h2 : 0 ≤ u ∧ u < 18446744073709551616) => goodr_ok (a := a) h1 hB h2.1 h2.2)
  have HBd := hide hB
  have hno := hB.no
  clear hS hB B0 R0
  obtain ⟨ph, co, ro, aa, na, ca, ra, cr, wa, nw, cw, oa, cb, fa, nf, cf, ga, ng, cg, qa, cq, k0, k1, k2, k3⟩ := a
  simp only [vl] at GO ⊢
  simp only at hW0 VF GO HS0
  obtain ⟨n, hn⟩ : ∃ n, c.os.length = n := ⟨_, rfl⟩
  obtain ⟨nr, hnre⟩ : ∃ nr, c.rs.length = nr := ⟨_, rfl⟩
  obtain ⟨nqz, hnqe⟩ : ∃ nqz, c.qu.length = nqz := ⟨_, rfl⟩
  simp only [hn, hnre, hnqe] at hW0 VF GO hmk hno ⊢
  obtain ⟨os, hos⟩ : ∃ os, c.os = os := ⟨_, rfl⟩
  rw [hos] at HS0 HBd hn
  simp only [hos] at GO ⊢
  have Hn := hide hn
  clear hn hnre hnqe hos
  obtain ⟨z, hz⟩ : ∃ z, W0.heap.size = z := ⟨_, rfl⟩
  have Hz := hide hz
  have c6 := (VF.out W0 (Below.refl _ _)).2.2.2.2.2.2.1
  obtain ⟨W1, hW1⟩ : ∃ W1, W0.alloc (.cells (madeCells #[.int .i64 0] n) 3) = W1 := ⟨_, rfl⟩
  have R1 := hide (show W1.rowIs z 3 n (fun _ => .int .i64 0) by rw [← hW1, ← hz]; exact rows_made _ _ _ _)
  have B1 := hide (show Below z W0 W1 by rw [← hW1, ← hz]; exact (Below.refl _ W0).alloc (Nat.le_refl _) _)
  rw [hz] at l0
  go_enter Try.func35, Try.ntmps35
  go_wp2_with fail
  clear hmk hW0 hW1 c6 hz
  go_loopw [6] (fun i wr => ∃ k : Nat, k ≤ n ∧ i = .int .i64 k ∧ Hid (wr.rowIs z 3 n (fun j => .int .i64 (if j < k then -1 else 0))) ∧ Hid (Below z W0 wr)) (fun i _ => n - (intOf i).toNat)
  case atStart => exact ⟨0, Nat.zero_le _, rfl, R1.out.congr (fun i hi => by simp), B1.out⟩
  case round =>
    obtain ⟨k, hk, rfl, HA, HB⟩ := hrel
    by_cases hlt : k < n
    · have hkn : (k : Int) < (n : Int) := by omega
      have cA := HA.out.cell hlt
      have fA := HA.out.frozen k
      obtain ⟨W6, hW6⟩ : ∃ W6, wr.setCell ⟨z, k, none⟩ (.int .i64 (-1)) = W6 := ⟨_, rfl⟩
      have HA6 := hide (show W6.rowIs z 3 n (fun j => .int .i64 (if j < k + 1 then -1 else 0)) by
        rw [← hW6]
        refine (HA.out.set k _).congr (fun i hi => ?_)
        by_cases e : i = k
        · subst e; simp
        · have e2 : i < k + 1 ↔ i < k := by omega
          simp [e, e2])
      have HB6 := hide (show Below z W0 W6 by rw [← hW6]; exact HB.out.setCell (by simp) _)
      go_wp2_with fail
      go_roundw
      case rel => exact ⟨k + 1, by omega, by go_num, HA6.out, HB6.out⟩
      case measure => simp [intOf]; omega
    · have hkn : ¬ (k : Int) < (n : Int) := by omega
      have HA2 := hide (show wr.rowIs z 3 n (fun j => .int .i64 (-1)) from HA.out.congr (fun i hi => by rw [if_pos (by omega)]))
      have HBw := hide (show Below W0.heap.size W0 wr by rw [Hz.out]; exact HB.out)
      clear HA
      by_cases t1 : tg < 1
      · go_wp2_with fail
        go_ret
        exact ⟨fun _ => -1, z, .inl ⟨fun _ => rfl, by rintro ⟨q, e, _⟩; omega⟩, rfl, by omega, HA2.out, HB0.out.trans (HB.out.mono (by omega))⟩
      · by_cases t2 : (n : Int) < tg
        · go_wp2_with fail
          go_ret
          exact ⟨fun _ => -1, z, .inl ⟨fun _ => rfl, by rintro ⟨q, e, h⟩; have := usA_lt h; rw [Hn.out] at this; omega⟩, rfl, by omega, HA2.out, HB0.out.trans (HB.out.mono (by omega))⟩
        · obtain ⟨q, rfl⟩ : ∃ q : Nat, tg = (q : Int) + 1 := ⟨tg.toNat - 1, by omega⟩
          have hq : q < n := by omega
          have hq2 : (q : Int) < (n : Int) := by omega
          obtain ⟨o, ho⟩ : ∃ o, os[q]? = some o := ⟨os[q]'(by rw [Hn.out]; exact hq), by simp [Hn.out, hq]⟩
          obtain ⟨b, off, ai, ci, hoa, hbl, hoc, hse⟩ := HS0.out.below HBw.out q o ho
          subst hoa
          obtain ⟨o0, _⟩ := Ob.cells9 hoc
          have c6 := (VF.out wr HBw.out).2.2.2.2.2.2.1
          have UQ := hide (show usA os q = o.us by simp [usA, ho])
          obtain ⟨us, hus⟩ : ∃ us, o.us = us := ⟨_, rfl⟩
          rw [hus] at o0 UQ
          clear ho hoc hse hus
          cases us
          · go_wp2_with fail
            go_ret
            exact ⟨fun _ => -1, z, .inl ⟨fun _ => rfl, by rintro ⟨q', e, h⟩; obtain rfl : q' = q := (by omega); rw [UQ.out] at h; cases h⟩, rfl, by omega, HA2.out, HB0.out.trans (HB.out.mono (by omega))⟩
          · have cA := HA2.out.cell hq
            have fA := HA2.out.frozen q
            obtain ⟨W6, hW6⟩ : ∃ W6, wr.setCell ⟨z, q, none⟩ (.int .i64 0) = W6 := ⟨_, rfl⟩
            have HA6 := hide (show W6.rowIs z 3 n (fun j => .int .i64 ((fun k => if k = q then (0 : Int) else -1) j)) by
              rw [← hW6]
              refine (HA2.out.set q _).congr (fun i hi => ?_)
              by_cases e : i = q
              · subst e; simp
              · simp [e])
            have HB6 := hide (show Below z W0 W6 by rw [← hW6]; exact HB.out.setCell (by simp) _)
            have F0 := hide (fd_start UQ.out)
            go_wp2_with fail
            clear c6 cA fA o0 hW6 HA2 HBw HB
            go_loopw [7] (fun nv wr => ∃ (m : Nat) (D : Nat → Int), m + 1 ≤ cnt D n ∧ nv = .int .i64 m ∧ Hid (Fd os ((q : Int) + 1) m D) ∧ Hid (wr.rowIs z 3 n (fun j => .int .i64 (D j))) ∧ Hid (Below z W0 wr)) (fun nv _ => n - (intOf nv).toNat)
            case atStart =>
              refine ⟨0, _, ?_, rfl, F0.out, HA6.out, HB6.out⟩
              have := cnt_lt (D := fun _ => -1) (D' := fun k => if k = q then (0 : Int) else -1) (fun k h => by omega) (k := q) (by omega) (by simp) n hq
              omega
            case round =>
              clear HA6 HB6 F0
              obtain ⟨m, D, hcn, rfl, HF, HA, HB⟩ := hrel
              have hmn : m < n := by have := cnt_le D n; omega
              go_wp2_with fail
              go_loopw [8, 9] (fun mv iv wr => ∃ k : Nat, k ≤ n ∧ iv = .int .i64 k ∧ mv = .bool (fnds os m D k) ∧ Hid (wr.rowIs z 3 n (fun j => .int .i64 (upd os m D k j))) ∧ Hid (Below z W0 wr)) (fun _ iv _ => n - (intOf iv).toNat)
              case atStart => exact ⟨0, Nat.zero_le _, rfl, rfl, HA.out.congr (fun i hi => by simp [upd]), HB.out⟩
              case round =>
                clear HA HB
                obtain ⟨k, hk, rfl, rfl, HA, HB⟩ := hrel
                have HBw := hide (show Below W0.heap.size W0 wr by rw [Hz.out]; exact HB.out)
                by_cases hltk : k < n
                · have hkn' : (k : Int) < (n : Int) := by omega
                  obtain ⟨o, ho⟩ : ∃ o, os[k]? = some o := ⟨os[k]'(by rw [Hn.out]; exact hltk), by simp [Hn.out, hltk]⟩
                  obtain ⟨b2, off2, ai, ci, hoa, hbl, hoc, hse⟩ := HS0.out.below HBw.out k o ho
                  obtain ⟨ea, eb⟩ : b = b2 ∧ off = off2 := by simpa using hoa
                  subst ea eb
                  obtain ⟨o0, _, _, _, _, _, _, _, o8⟩ := Ob.cells9 hoc
                  have c6 := (VF.out wr HBw.out).2.2.2.2.2.2.1
                  have cA := HA.out.cell hltk
                  simp only [upd_at] at cA
                  have hom := List.mem_of_getElem? ho
                  have HWd2 := hide (HBd.out.sl o hom)
                  have hMb := HBd.out.ns o hom
                  have HSE := hide (show SeesU W0 ai o.sl by obtain ⟨b', off', ai', ci', e1, e2, e3, e4⟩ := HS0.out k o ho; (obtain ⟨ea, eb⟩ : b = b' ∧ off = off' := by simpa using e1); subst ea eb; have e5 := (HBw.out.cell (p := ⟨b, off + k * 9 + 8, none⟩) e2).trans (e3 8 (by decide)); have e6 := hoc 8 (by decide); rw [e6] at e5; simp [Ob.cell] at e5; rw [e5.1]; exact e4)
                  have FN := hide (show fnd os m D k = (decide (D k < 0) && o.us && o.sl.any (hit os m D)) by simp [fnd, usA, slA, ho])
                  have hdk : -1 ≤ D k := by rcases HF.out.rng k with h | h <;> omega
                  obtain ⟨dk, hde⟩ : ∃ dk, D k = dk := ⟨_, rfl⟩
                  rw [hde] at cA FN hdk
                  have HDE := hide hde
                  obtain ⟨us, hus⟩ : ∃ us, o.us = us := ⟨_, rfl⟩
                  rw [hus] at o0 FN
                  obtain ⟨sl, hsl⟩ : ∃ sl, o.sl = sl := ⟨_, rfl⟩
                  rw [hsl] at o8 FN HWd2 HSE hMb
                  obtain ⟨M, hM⟩ : ∃ M, sl.length = M := ⟨_, rfl⟩
                  rw [hM] at o8 hMb
                  have HM := hide hM
                  clear ho hoc hse hus hsl hM hom hde
                  by_cases hd : 0 ≤ dk
                  · have NF := hide (show fnd os m D k = false by rw [FN.out]; simp; intro h; omega)
                    go_wp2_with fail
                    go_roundw
                    case rel => exact ⟨k + 1, by omega, by go_num, by simp [fnds, NF.out], by show World.rowIs _ _ _ _ _; rw [upd_skip NF.out]; exact HA.out, HB.out⟩
                    case measure => simp [intOf]; omega
                  · cases us
                    · have NF := hide (show fnd os m D k = false by rw [FN.out]; simp)
                      go_wp2_with fail
                      go_roundw
                      case rel => exact ⟨k + 1, by omega, by go_num, by simp [fnds, NF.out], by show World.rowIs _ _ _ _ _; rw [upd_skip NF.out]; exact HA.out, HB.out⟩
                      case measure => simp [intOf]; omega
                    · have YF := hide (show fnd os m D k = sl.any (hit os m D) by rw [FN.out]; simp; intro _; omega)
                      clear FN
                      go_wp2_with fail
                      clear c6 cA o0 o8 HBw hbl
                      obtain ⟨fb, hfb⟩ : ∃ fb, fnds os m D k = fb := ⟨_, rfl⟩
                      rw [hfb]
                      have HFB := hide hfb
                      clear hfb
                      go_loopw [8, 11] (fun mv iv wr => ∃ j : Nat, j ≤ M ∧ iv = .int .i64 j ∧ mv = .bool (fb || (sl.take j).any (hit os m D)) ∧ Hid (wr.rowIs z 3 n (fun i => .int .i64 (if i = k ∧ (sl.take j).any (hit os m D) = true then (m : Int) + 1 else upd os m D k i))) ∧ Hid (Below z W0 wr)) (fun _ iv _ => M - (intOf iv).toNat)
                      case atStart => exact ⟨0, Nat.zero_le _, rfl, by simp, HA.out.congr (fun i hi => by simp), HB.out⟩
                      case round =>
                        clear HA HB
                        obtain ⟨j, hj, rfl, rfl, HA, HB⟩ := hrel
                        have HBw := hide (show Below W0.heap.size W0 wr by rw [Hz.out]; exact HB.out)
                        have hzw : z ≤ wr.heap.size := Nat.le_of_lt HA.out.lt
                        by_cases hltj : j < M
                        · have hjn : (j : Int) < (M : Int) := by omega
                          obtain ⟨u, hu⟩ : ∃ u, sl[j]? = some u := ⟨sl[j]'(by rw [HM.out]; exact hltj), by simp [HM.out, hltj]⟩
                          have hwu := HWd2.out u (List.mem_of_getElem? hu)
                          obtain ⟨b1, off1, hao1, hbl, hcc⟩ := HSE.out.below HBw.out j u hu
                          subst hao1
                          have D1 : Below W0.heap.size W0 wr.drew := ⟨HBw.out.os, HBw.out.tape, HBw.out.output, HBw.out.size, HBw.out.block⟩
                          have K0 := VF.out wr.drew D1
                          have hcd : wr.drew.cell? ⟨b1, off1 + j, none⟩ = some (.int .u64 u) := hcc
                          have GX := hide (GO.out wr.drew (HS0.out.below D1) u hwu)
                          have TK := hide (show (sl.take (j + 1)).any (hit os m D) = ((sl.take j).any (hit os m D) || hit os m D u) by rw [List.take_add_one, hu]; simp)
                          obtain ⟨t, ht⟩ : ∃ t, (sl.take j).any (hit os m D) = t := ⟨_, rfl⟩
                          rw [ht] at TK HA ⊢
                          obtain ⟨x, hx⟩ : ∃ x, gd os u = x := ⟨_, rfl⟩
                          have hxn : x ≤ n := by rw [← hx, ← Hn.out]; exact gd_le _ _
                          have HT := hide (show hit os m D u = (x != 0 && D (x - 1) == (m : Int)) by rw [hit, hx])
                          rw [hx] at GX
                          clear hu hx hwu ht
                          go_upto_region 20 with (fail)
                          go_region_held (fun w' => w'.cell? ⟨w.heap.size, 0, none⟩ = some (.int .i64 ph) ∧ w'.cell? ⟨w.heap.size, 1, none⟩ = some (.int .i64 co) ∧ w'.cell? ⟨w.heap.size, 2, none⟩ = some (.int .u64 ro) ∧ w'.cell? ⟨w.heap.size, 3, none⟩ = some (.slice aa na ca) ∧ w'.cell? ⟨w.heap.size, 4, none⟩ = some (.slice ra nr cr) ∧ w'.cell? ⟨w.heap.size, 5, none⟩ = some (.slice wa nw cw) ∧ w'.cell? ⟨w.heap.size, 6, none⟩ = some (.slice (some ⟨b, off, none⟩) n cb) ∧ w'.cell? ⟨w.heap.size, 7, none⟩ = some (.slice fa nf cf) ∧ w'.cell? ⟨w.heap.size, 8, none⟩ = some (.slice ga ng cg) ∧ w'.cell? ⟨w.heap.size, 9, none⟩ = some (.slice qa nqz cq) ∧ w'.cell? ⟨w.heap.size, 10, none⟩ = some (.int .u64 k0) ∧ w'.cell? ⟨w.heap.size, 11, none⟩ = some (.int .u64 k1) ∧ w'.cell? ⟨w.heap.size, 12, none⟩ = some (.int .u64 k2) ∧ w'.cell? ⟨w.heap.size, 13, none⟩ = some (.int .u64 k3) ∧ w'.cell? ⟨b1, off1 + j, none⟩ = some (.int .u64 u)) (first | exact ⟨K0.1, K0.2.1, K0.2.2.1, K0.2.2.2.1, K0.2.2.2.2.1, K0.2.2.2.2.2.1, K0.2.2.2.2.2.2.1, K0.2.2.2.2.2.2.2.1, K0.2.2.2.2.2.2.2.2.1, K0.2.2.2.2.2.2.2.2.2.1, K0.2.2.2.2.2.2.2.2.2.2.1, K0.2.2.2.2.2.2.2.2.2.2.2.1, K0.2.2.2.2.2.2.2.2.2.2.2.2.1, K0.2.2.2.2.2.2.2.2.2.2.2.2.2, hcd⟩ | exact ⟨K1.1, K1.2.1, K1.2.2.1, K1.2.2.2.1, K1.2.2.2.2.1, K1.2.2.2.2.2.1, K1.2.2.2.2.2.2.1, K1.2.2.2.2.2.2.2.1, K1.2.2.2.2.2.2.2.2.1, K1.2.2.2.2.2.2.2.2.2.1, K1.2.2.2.2.2.2.2.2.2.2.1, K1.2.2.2.2.2.2.2.2.2.2.2.1, K1.2.2.2.2.2.2.2.2.2.2.2.2.1, K1.2.2.2.2.2.2.2.2.2.2.2.2.2, hc1⟩) ((go_at_call 30; refine GX.out.mono ?_; rintro e w1 ⟨rfl, hb⟩; have HB1 := hide hb; have K1 := VF.out w1 (D1.trans (hb.mono D1.size)); have hc1 : w1.cell? ⟨b1, off1 + j, none⟩ = some (.int .u64 u) := (hb.cell (p := ⟨b1, off1 + j, none⟩) hbl).trans hcd; clear hb))
                          have D2 : Below wr.heap.size wr w1 := ⟨HB1.out.os, HB1.out.tape, HB1.out.output, HB1.out.size, HB1.out.block⟩
                          have HA1 := hide (row_on HA.out D2)
                          have HBz := hide (show Below z W0 w1 from HB.out.trans (D2.mono hzw))
                          clear K0 K1 hcd hc1 D1 D2 hcc GX
                          by_cases hx0 : x = 0
                          · subst hx0
                            have NH := hide (show (sl.take (j + 1)).any (hit os m D) = t by rw [TK.out, HT.out]; simp)
                            go_wp2_with fail
                            go_roundw
                            case rel => exact ⟨j + 1, by omega, by go_num, by rw [NH.out], by show World.rowIs _ _ _ _ _; rw [NH.out]; exact HA1.out, HBz.out⟩
                            case measure => simp [intOf]; omega
                          · obtain ⟨y, rfl⟩ : ∃ y, x = y + 1 := ⟨x - 1, by omega⟩
                            have hy : y < n := by omega
                            have hy2 : (y : Int) < (n : Int) := by omega
                            have cY := HA1.out.cell hy
                            (try simp only at cY)
                            obtain ⟨v, hv⟩ : ∃ v, (if y = k ∧ t = true then (m : Int) + 1 else upd os m D k y) = v := ⟨_, rfl⟩
                            have hvm : v = (m : Int) ↔ D y = (m : Int) := by
                              rw [← hv]
                              split
                              · rename_i h
                                have e := HDE.out
                                rw [← h.1] at e
                                constructor <;> intro e2 <;> omega
                              · exact upd_eqn (by rcases HF.out.rng y with h | h <;> omega)
                            rw [hv] at cY
                            simp only [Nat.add_sub_cancel] at HT
                            clear hv
                            by_cases hh : v = (m : Int)
                            · have NH := hide (show (sl.take (j + 1)).any (hit os m D) = true by rw [TK.out, HT.out, hvm.1 hh]; simp)
                              subst hh
                              have cK := HA1.out.cell hltk
                              have fK := HA1.out.frozen k
                              obtain ⟨W6, hW6⟩ : ∃ W6, w1.setCell ⟨z, k, none⟩ (.int .i64 ((m : Int) + 1)) = W6 := ⟨_, rfl⟩
                              have HA6 := hide (show W6.rowIs z 3 n (fun i => .int .i64 (if i = k ∧ true = true then (m : Int) + 1 else upd os m D k i)) by
                                rw [← hW6]
                                refine (HA1.out.set k _).congr (fun i hi => ?_)
                                by_cases e : i = k
                                · subst e; simp
                                · simp [e])
                              have HB6 := hide (show Below z W0 W6 by rw [← hW6]; exact HBz.out.setCell (by simp) _)
                              clear hvm
                              go_wp2_with fail
                              go_roundw
                              case rel => exact ⟨j + 1, by omega, by go_num, by rw [NH.out]; simp, by show World.rowIs _ _ _ _ _; rw [NH.out]; exact HA6.out, HB6.out⟩
                              case measure => simp [intOf]; omega
                            · have NH := hide (show (sl.take (j + 1)).any (hit os m D) = t by rw [TK.out, HT.out]; have : ¬ D y = (m : Int) := fun e => hh (hvm.2 e); simp [this])
                              have ne : (v == (m : Int)) = false := by simp [hh]
                              clear hvm
                              go_wp2_with fail
                              go_roundw
                              case rel => exact ⟨j + 1, by omega, by go_num, by rw [NH.out], by show World.rowIs _ _ _ _ _; rw [NH.out]; exact HA1.out, HBz.out⟩
                              case measure => simp [intOf]; omega
                        · have hjn : ¬ (j : Int) < (M : Int) := by omega
                          have e0 : sl.take j = sl := List.take_of_length_le (by rw [HM.out]; omega)
                          rw [e0] at HA ⊢
                          rw [← YF.out] at HA ⊢
                          have HA3 := hide (show wr.rowIs z 3 n (fun j => .int .i64 (upd os m D (k + 1) j)) from HA.out.congr (fun i hi => by rw [upd_next]))
                          go_wp2_with fail
                          go_roundw
                          case rel => exact ⟨k + 1, by omega, by go_num, by simp [fnds, HFB.out], HA3.out, HB.out⟩
                          case measure => simp [intOf]; omega
                · have hkn' : ¬ (k : Int) < (n : Int) := by omega
                  obtain rfl : k = n := by omega
                  obtain ⟨bl, hbl⟩ : ∃ bl, fnds os m D k = bl := ⟨_, rfl⟩
                  rw [hbl]
                  have HBL := hide hbl
                  clear hbl
                  cases bl
                  · have NO := hide (fnds_none HBL.out)
                    go_wp2_with fail
                    go_ret
                    exact ⟨D, z, .inr ⟨q, m, rfl, UQ.out, HF.out, by rw [Hn.out]; exact NO.out⟩, rfl, by omega, HA.out.congr (fun i hi => by unfold upd; rw [if_neg (by rw [NO.out i hi]; simp)]), HB0.out.trans (HB.out.mono (by omega))⟩
                  · have F1 := hide (fd_step HF.out)
                    have C1 := hide (show m + 1 + 1 ≤ cnt (upd os m D k) k by
                      obtain ⟨k', h1, h2⟩ := fnds_some HBL.out
                      have := upd_cnt (os := os) (n := m) (D := D) (k := k') (by rw [Hn.out]; exact h1) h2
                      rw [Hn.out] at this
                      omega)
                    rw [Hn.out] at F1
                    go_wp2_with fail
                    go_roundw
                    case rel => exact ⟨m + 1, _, C1.out, by go_num, F1.out, HA.out, HB.out⟩
                    case measure => simp [intOf]; omega
end Gr
end Go.Proofs.Ytakgidhblkjjbaa
