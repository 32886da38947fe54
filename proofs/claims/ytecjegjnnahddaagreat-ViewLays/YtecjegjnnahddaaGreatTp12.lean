/-
  Lemmas: VwLi.
-/
import Derived.Test.YtecjegjnnahddaaGreatTp11
import Derived.Test.YtecjegjnnahddaaGreatTp08
/-
  View: the document's fit: the lists that a view of this shape has
-/
namespace Go.Proofs.YtecjegjnnahddaaGreat
open Go.RowKit
set_option linter.unusedVariables false
set_option linter.unusedSimpArgs false
set_option linter.unnecessarySimpa false
set_option maxRecDepth 20000
namespace Vw
open Shape
/-- The lists and numbers that a view of this shape has. -/
structure Fit (x : Sh) (c : Cv) : Prop where
  na : c.na = x.h
  nr : c.nr = x.h
  nw : c.nw = x.k
  no : c.no = x.o
  rn : ∀ j, j < x.h → c.rn j = x.r
  ns : ∀ j, j < x.o → (c.ob j).ns = x.s
  ph : 0 ≤ c.ph ∧ c.ph ≤ 7
  co : c.co = 0 ∨ c.co = 1
  ro : c.ro < 72057594037927936

set_option maxHeartbeats 16000000 in
theorem rfit_ok {o s h r k : Nat} {s5 : Int} {c : Cv} {a : Av} {w : World} (H : (⟨o, s, h, r, k⟩ : Sh).Ok) (hS : Shows w c a) (hL : Len c) :
    Calls Tryz.prog 16 #[.agg #[.int .i64 (o : Int), .int .i64 (s : Int), .int .i64 (h : Int), .int .i64 (r : Int), .int .i64 (k : Int), .int .i64 s5], vl c a] w fun e w' => Tells e (Fit ⟨o, s, h, r, k⟩ c) ∧ Below w.heap.size w w' := by
  have bo : o ≤ 70000 := by have := H.o2; simp only at this; omega
  have bh : h ≤ 70000 := by have := H.h2; simp only at this; omega
  clear H
  obtain ⟨W0, hW0, B0, K⟩ := box w (o : Int) (s : Int) (h : Int) (r : Int) (k : Int) s5
  obtain ⟨W1, hW1, B1, R1⟩ := vbox W0 c a
  have l0 : w.heap.size < W0.heap.size := (K.out W0 (Below.refl _ _)).2.1
  have l1 : W0.heap.size < W1.heap.size := R1.lt
  have KX := hide (fun (V : World) (hb : Below W1.heap.size W1 V) => (K.out V (B1.trans (hb.mono B1.size))).2.2)
  have RY := hide R1
  have HB := hide (B0.trans (B1.mono B0.size))
  have HS := hide (hS.below HB.out)
  have HL := hide hL
  obtain ⟨x0, x1, x2, x3, x4, x5⟩ := KX.out W1 (Below.refl _ _)
  have y0 := RY.out.cell (i := 0) (by decide)
  have y1 := RY.out.cell (i := 1) (by decide)
  have y2 := RY.out.cell (i := 2) (by decide)
  have y3 := RY.out.cell (i := 3) (by decide)
  have y4 := RY.out.cell (i := 4) (by decide)
  have y5 := RY.out.cell (i := 5) (by decide)
  have y6 := RY.out.cell (i := 6) (by decide)
  simp only [lrow] at y0 y1 y2 y3 y4 y5 y6
  clear R1 B0 B1 hS hL K
  simp only [vl]
  by_cases q_na : c.na = h
  rotate_left
  · have HH := hide q_na
    have hb : ((c.na : Int) != (h : Int)) = true := by simp; omega
    clear q_na
    go_enter Tryz.func16, Tryz.ntmps16
    go_wp2_with fail
    go_ret
    exact ⟨Tells.no (fun h => HH.out h.na), HB.out⟩
  have H_na := hide q_na
  have b_na : ((c.na : Int) != (h : Int)) = false := by simp; omega
  clear q_na
  by_cases q_nr : c.nr = h
  rotate_left
  · have HH := hide q_nr
    have hb : ((c.nr : Int) != (h : Int)) = true := by simp; omega
    clear q_nr
    go_enter Tryz.func16, Tryz.ntmps16
    go_wp2_with fail
    go_ret
    exact ⟨Tells.no (fun h => HH.out h.nr), HB.out⟩
  have H_nr := hide q_nr
  have b_nr : ((c.nr : Int) != (h : Int)) = false := by simp; omega
  clear q_nr
  by_cases q_nw : c.nw = k
  rotate_left
  · have HH := hide q_nw
    have hb : ((c.nw : Int) != (k : Int)) = true := by simp; omega
    clear q_nw
    go_enter Tryz.func16, Tryz.ntmps16
    go_wp2_with fail
    go_ret
    exact ⟨Tells.no (fun h => HH.out h.nw), HB.out⟩
  have H_nw := hide q_nw
  have b_nw : ((c.nw : Int) != (k : Int)) = false := by simp; omega
  clear q_nw
  by_cases q_no : c.no = o
  rotate_left
  · have HH := hide q_no
    have hb : ((c.no : Int) != (o : Int)) = true := by simp; omega
    clear q_no
    go_enter Tryz.func16, Tryz.ntmps16
    go_wp2_with fail
    go_ret
    exact ⟨Tells.no (fun h => HH.out h.no), HB.out⟩
  have H_no := hide q_no
  have b_no : ((c.no : Int) != (o : Int)) = false := by simp; omega
  clear q_no
  go_enter Tryz.func16, Tryz.ntmps16
  go_upto_region 3 with (fail)
  clear y0 y1 y2 y3 y4 y5 y6 b_na b_nr b_nw b_no
  go_wp2_with fail
  clear x0 x1 x2 x3 x4 x5
  go_loopw [5] (fun i wr => ∃ j : Nat, j ≤ h ∧ i = .int .i64 j ∧ Hid (Below W1.heap.size W1 wr) ∧ Hid (∀ q, q < j → c.rn q = r)) (fun i _ => h - (intOf i).toNat)
  case atStart => exact ⟨0, Nat.zero_le _, rfl, Below.refl _ _, fun j hj => absurd hj (by omega)⟩
  case round =>
    obtain ⟨j, hk, rfl, HW, HK⟩ := hrel
    obtain ⟨x0, x1, x2, x3, x4, x5⟩ := KX.out wr HW.out
    have y4 := (row_on RY.out HW.out).cell (i := 4) (by decide)
    simp only [lrow] at y4
    by_cases hlt : j < h
    · have hkn : (j : Int) < (h : Int) := by omega
      have hkm : (j : Int) < (c.nr : Int) := by have := H_nr.out; omega
      obtain ⟨b, off, ai, ci, hra, hbl, hcc, hse⟩ := (HS.out.below HW.out).rt j (by have := H_nr.out; omega)
      rw [hra] at y4
      clear hra hse
      by_cases he : c.rn j = r
      · have HE := hide he
        have hb : ((c.rn j : Int) != (r : Int)) = false := by simp; omega
        clear he
        go_upto_region 6 with (fail)
        go_quiet (fail)
        go_wp2
        go_roundw
        case rel => exact ⟨j + 1, by omega, by go_num, below_drewN HW.out _, fun q hq => if h : q = j then h ▸ HE.out else HK.out q (by omega)⟩
        case measure => simp [intOf]; omega
      · have HE := hide he
        have hb : ((c.rn j : Int) != (r : Int)) = true := by simp; omega
        clear he
        go_upto_region 6 with (fail)
        go_quiet (fail)
        go_wp2
        go_ret
        exact ⟨Tells.no (fun h => HE.out (h.rn j hlt)), HB.out.trans ((below_drewN HW.out _).mono HB.out.size)⟩
    · have hkn : ¬ (j : Int) < (h : Int) := by omega
      have e : j = h := by omega
      have HR : Hid (∀ q, q < h → c.rn q = r) := by rw [← e]; exact HK.out
      clear e HK y4
      obtain ⟨V, hV⟩ : ∃ V, V = wr := ⟨_, rfl⟩
      subst hV
      have HWV := hide HW.out
      clear HW
      go_wp2_with fail
      clear x0 x1 x2 x3 x4 x5
      go_loopw [6] (fun i wr => ∃ j : Nat, j ≤ o ∧ i = .int .i64 j ∧ Hid (Below V.heap.size V wr) ∧ Hid (∀ q, q < j → (c.ob q).ns = s)) (fun i _ => o - (intOf i).toNat)
      case atStart => exact ⟨0, Nat.zero_le _, rfl, Below.refl _ _, fun j hj => absurd hj (by omega)⟩
      case round =>
        obtain ⟨j, hk, rfl, HW, HK⟩ := hrel
        have HWW := hide (HWV.out.trans (HW.out.mono HWV.out.size))
        obtain ⟨x0, x1, x2, x3, x4, x5⟩ := KX.out wr HWW.out
        have y6 := (row_on RY.out HWW.out).cell (i := 6) (by decide)
        simp only [lrow] at y6
        by_cases hlt : j < o
        · have hkn : (j : Int) < (o : Int) := by omega
          have hkm : (j : Int) < (c.no : Int) := by have := H_no.out; omega
          obtain ⟨b, off, ai, ci, hoa, hbl, hoc, hse⟩ := (HS.out.below HWW.out).ob j (by have := H_no.out; omega)
          have hcc := hoc 8 (by decide)
          simp only [Ob.cell] at hcc
          rw [hoa] at y6
          clear hoa hse hoc
          by_cases he : (c.ob j).ns = s
          · have HE := hide he
            have hb : (((c.ob j).ns : Int) != (s : Int)) = false := by simp; omega
            clear he
            go_upto_region 11 with (fail)
            go_quiet (fail)
            go_wp2
            go_roundw
            case rel => exact ⟨j + 1, by omega, by go_num, below_drewN HW.out _, fun q hq => if h : q = j then h ▸ HE.out else HK.out q (by omega)⟩
            case measure => simp [intOf]; omega
          · have HE := hide he
            have hb : (((c.ob j).ns : Int) != (s : Int)) = true := by simp; omega
            clear he
            go_upto_region 11 with (fail)
            go_quiet (fail)
            go_wp2
            go_ret
            exact ⟨Tells.no (fun h => HE.out (h.ns j hlt)), HB.out.trans ((below_drewN HWW.out _).mono HB.out.size)⟩
        · have hkn : ¬ (j : Int) < (o : Int) := by omega
          have e : j = o := by omega
          have HO : Hid (∀ q, q < o → (c.ob q).ns = s) := by rw [← e]; exact HK.out
          clear e HK y6
          have y0 := (row_on RY.out HWW.out).cell (i := 0) (by decide)
          have y1 := (row_on RY.out HWW.out).cell (i := 1) (by decide)
          have y2 := (row_on RY.out HWW.out).cell (i := 2) (by decide)
          simp only [lrow] at y0 y1 y2
          have HBW := hide (HB.out.trans (HWW.out.mono HB.out.size))
          by_cases q : 0 ≤ c.ph
          rotate_left
          · have HH := hide q
            have hb0 : decide (0 ≤ c.ph) = false := by simp; omega
            clear q
            go_wp2_with fail
            go_ret
            exact ⟨Tells.no (fun h => by have h1 := HH.out; have h2 := h.ph; omega), HBW.out⟩
          have p1 := q
          clear q
          by_cases q : c.ph ≤ 7
          rotate_left
          · have HH := hide q
            have hb0 : decide (c.ph ≤ 7) = false := by simp; omega
            clear q
            go_wp2_with fail
            go_ret
            exact ⟨Tells.no (fun h => by have h1 := HH.out; have h2 := h.ph; omega), HBW.out⟩
          have p2 := q
          clear q
          by_cases q : c.co = 0 ∨ c.co = 1
          rotate_left
          · have HH := hide q
            have hb0 : (c.co == 0) = false := by simp; omega
            have hb1 : (c.co == 1) = false := by simp; omega
            clear q
            go_wp2_with fail
            go_ret
            exact ⟨Tells.no (fun h => HH.out h.co), HBW.out⟩
          have HC := hide q
          clear q
          by_cases q : c.ro < 72057594037927936
          rotate_left
          · have HH := hide q
            have hb0 : decide (c.ro < 72057594037927936) = false := by simp; omega
            clear q
            rcases HC.out with q | q
            · have hc : (c.co == 0) = true := by simp [q]
              clear q
              go_wp2_with fail
              go_ret
              exact ⟨Tells.no (fun h => by have h1 := HH.out; have h2 := h.ro; omega), HBW.out⟩
            · have hc : (c.co == 1) = true := by simp [q]
              have hd : (c.co == 0) = false := by simp [q]
              clear q
              go_wp2_with fail
              go_ret
              exact ⟨Tells.no (fun h => by have h1 := HH.out; have h2 := h.ro; omega), HBW.out⟩
          have p3 := q
          clear q
          have FT : Hid (Fit ⟨o, s, h, r, k⟩ c) := ⟨H_na.out, H_nr.out, H_nw.out, H_no.out, HR.out, HO.out, ⟨p1, p2⟩, HC.out, p3⟩
          rcases HC.out with q | q
          · have hc : (c.co == 0) = true := by simp [q]
            clear q
            go_wp2_with fail
            go_ret
            exact ⟨Tells.yes FT.out, HBW.out⟩
          · have hc : (c.co == 1) = true := by simp [q]
            have hd : (c.co == 0) = false := by simp [q]
            clear q
            go_wp2_with fail
            go_ret
            exact ⟨Tells.yes FT.out, HBW.out⟩

set_option maxHeartbeats 1000000 in
theorem rfirst_ok {w : World} {ao : Option Addr} {l : List Int} {cap : Nat} (h : SeesN w ao l) (hl : l.length ≤ 9223372036854775807) :
    Calls Tryz.prog 17 #[.slice ao l.length cap] w fun e w' => e = .returned (.int .u64 (hdV l)) ∧ Below w.heap.size w w' := by
  have H := hide h
  clear h
  cases l with
  | nil =>
    go_enter Tryz.func17, Tryz.ntmps17
    go_wp2_with fail
    go_ret
    exact ⟨rfl, Below.refl _ _⟩
  | cons x l =>
    obtain ⟨b, off, rfl, hb, hc⟩ := H.out 0 x rfl
    obtain ⟨n, hn⟩ : ∃ n, (x :: l).length = n := ⟨_, rfl⟩
    have hp : 0 < n := by rw [← hn]; simp
    rw [hn] at hl ⊢
    have h0 : (0 : Int) < (n : Int) := by omega
    have hb0 : ((n : Int) == 0) = false := by simp; omega
    clear hn
    have hc : w.cell? ⟨b, off, none⟩ = some (.int .i64 x) := hc
    go_enter Tryz.func17, Tryz.ntmps17
    go_wp2_with (go_at_call 31; refine (tagged_ref x 0 (by decide) (by decide) _).mono ?_; rintro e w' ⟨rfl, hw⟩; obtain rfl := hw.symm)
    go_ret
    exact ⟨rfl, Below.refl _ _⟩
end Vw
end Go.Proofs.YtecjegjnnahddaaGreat
