/-
  Lemmas: VwSh.
-/
import Derived.Test.YtecjegjnnahddaaGreatTp27
import Derived.Test.YtecjegjnnahddaaGreatTp15
import Derived.Test.YtecjegjnnahddaaGreatTp10
/-
  View: the document's Same of any two views
-/
namespace Go.Proofs.YtecjegjnnahddaaGreat
open Go.RowKit
set_option linter.unusedVariables false
set_option linter.unusedSimpArgs false
set_option linter.unnecessarySimpa false
set_option maxRecDepth 20000
namespace Vw
open Shape
/-- What a comparison of two objects leaves, link by link. -/
def OSb (wr : World) (bv : Bool) : Nat → (Nat → Value) → World → Prop
  | 0, s, w => Below wr.heap.size wr w
  | 1, s, w => Below wr.heap.size wr w ∧ s 87 = .bool bv
  | _, s, w => Below wr.heap.size wr w ∧ s 88 = .bool (!bv)
theorem OSb.local {wr : World} {bv : Bool} {n : Nat} {s s' : Nat → Value} {w : World} (h1 : s 87 = s' 87) (h2 : s 88 = s' 88) (h : OSb wr bv n s w) : OSb wr bv n s' w := by
  match n, h with
  | 0, h => exact h
  | 1, h => simp only [OSb] at h ⊢; rw [← h1]; exact h
  | n + 2, h => simp only [OSb] at h ⊢; rw [← h2]; exact h
theorem OSb.low {wr : World} {bv : Bool} {n : Nat} {s : Nat → Value} {w : World} (h : OSb wr bv n s w) : Below wr.heap.size wr w := by
  match n, h with
  | 0, h => exact h
  | 1, h => exact h.1
  | n + 2, h => exact h.1
theorem ex_idx9g {ev : Operand → Value} {o : Oper} {w : World} {x y : Operand} {b off n cap k : Nat} (ho : o.op = .indexAddr 27 x y) (hx : ev x = .slice (some ⟨b, off, none⟩) n cap) (hy : ev y = .int .i64 (k : Int)) (hk : (k : Int) < (n : Int)) : (execOp ev o).run Tryz.prog w = .ok (.value (.pointer (some ⟨b, off + k * 9, none⟩))) w := by
  simp [execOp, ho, hx, hy, go_sem, hk]
theorem arr_neb (x0 x1 x2 x3 y0 y1 y2 y3 : Int) (w : World) (b : Bool) (h : (x0 == y0 && (x1 == y1 && (x2 == y2 && x3 == y3))) = b) : (binOp .neq 29 (.agg #[.int .u64 x0, .int .u64 x1, .int .u64 x2, .int .u64 x3]) (.agg #[.int .u64 y0, .int .u64 y1, .int .u64 y2, .int .u64 y3])).run Tryz.prog w = .ok (.bool (!b)) w := by
  have h' := arr_eql 9998 x0 x1 x2 x3 y0 y1 y2 y3 w
  simp [binOp, Op.equal]
  rw [show Op.maxDepth = 9998 + 2 from rfl, h', h]
  rfl
theorem yesQ {P : Program} {f : FuncId} {args : Array Value} {w : World} {p : Prop} {Q : World → Prop} (h : Calls P f args w fun e w' => Tells e p ∧ Q w') (hp : p) : Calls P f args w fun e w' => e = .returned (.bool true) ∧ Q w' := h.mono (by rintro e w' ⟨h, hm⟩; exact ⟨h.is hp, hm⟩)
theorem noQ {P : Program} {f : FuncId} {args : Array Value} {w : World} {p : Prop} {Q : World → Prop} (h : Calls P f args w fun e w' => Tells e p ∧ Q w') (hp : ¬ p) : Calls P f args w fun e w' => e = .returned (.bool false) ∧ Q w' := h.mono (by rintro e w' ⟨h, hm⟩; exact ⟨h.isnt hp, hm⟩)

theorem sobj {x y : Ob} {bv : Bool} (hv : bv = true ↔ ObE x y) {ci cj : Nat} {ai aj : Option Addr} {w : World} (h : Sees w w.heap.size ai x.ns x.sl) (h' : Sees w w.heap.size aj y.ns y.sl) (hn : x.ns ≤ 9223372036854775807) (hn' : y.ns ≤ 9223372036854775807) :
    Calls Tryz.prog 43 #[.agg (Ob.cells x (.slice ai x.ns ci)).toArray, .agg (Ob.cells y (.slice aj y.ns cj)).toArray] w fun e w' => e = .returned (.bool bv) ∧ Below w.heap.size w w' :=
  (sameObjG (us := x.us) (li := x.li) (fi := x.fi) (ta := x.ta) (ag := x.ag) (ge := x.ge) (lk := x.lk) (nx := x.nx) (us' := y.us) (li' := y.li) (fi' := y.fi) (ta' := y.ta) (ag' := y.ag) (ge' := y.ge) (lk' := y.lk) (nx' := y.nx) (ci := ci) (cj := cj) h h' hn hn').mono (by
    rintro e w' ⟨⟨v, rfl, hv2⟩, hb⟩
    refine ⟨?_, hb⟩
    have : v = bv := by
      have : v = true ↔ bv = true := hv2.trans hv.symm
      cases v <;> cases bv <;> simp_all
    rw [this])

set_option maxHeartbeats 32000000 in
theorem sameG {w : World} {c d : Cv} {a b2 : Av} (h : Shows w c a) (h' : Shows w d b2) (hc : Len c) (hd : Len d) :
    Calls Tryz.prog 20 #[vl c a, vl d b2] w fun e w' => Tells e (Cq c d) ∧ Below w.heap.size w w' := by
  obtain ⟨W0, hW0, B0, R0⟩ := vbox w c a
  obtain ⟨W1, hW1, B1, R1⟩ := vbox W0 d b2
  have RX := hide (row_on R0 B1)
  have RY := hide R1
  have HB := hide (B0.trans (B1.mono B0.size))
  have HS := hide (h.below HB.out)
  have HT := hide (h'.below HB.out)
  have HC := hide hc
  have HD := hide hd
  have l0 : w.heap.size < W0.heap.size := R0.lt
  have l1 : W0.heap.size < W1.heap.size := R1.lt
  have bnr := hc.nr
  have bno := hc.no
  have E0 := hide (fun (V : World) (hb : Below W1.heap.size W1 V) => (same13g (cap := a.ca) (cap' := b2.ca) (HS.out.below hb).ac (HT.out.below hb).ac HC.out.na HD.out.na).mono (fun e w' => on_drew))
  have E1 := hide (fun (V : World) (hb : Below W1.heap.size W1 V) => (same13g (cap := a.cw) (cap' := b2.cw) (HS.out.below hb).wk (HT.out.below hb).wk HC.out.nw HD.out.nw).mono (fun e w' => on_drew))
  have E2 := hide (fun (V : World) (hb : Below W1.heap.size W1 V) => (sameIg (cap := a.cf) (cap' := b2.cf) (HS.out.below hb).fr (HT.out.below hb).fr HC.out.fr HD.out.fr).mono (fun e w' => on_drew))
  have E3 := hide (fun (V : World) (hb : Below W1.heap.size W1 V) => (sameIg (cap := a.cg) (cap' := b2.cg) (HS.out.below hb).gr (HT.out.below hb).gr HC.out.gr HD.out.gr).mono (fun e w' => on_drew))
  have E4 := hide (fun (V : World) (hb : Below W1.heap.size W1 V) => (sameIg (cap := a.cq) (cap' := b2.cq) (HS.out.below hb).qu (HT.out.below hb).qu HC.out.qu HD.out.qu).mono (fun e w' => on_drew))
  have x0 := RX.out.cell (i := 0) (by decide)
  have x1 := RX.out.cell (i := 1) (by decide)
  have x2 := RX.out.cell (i := 2) (by decide)
  have x3 := RX.out.cell (i := 3) (by decide)
  have x4 := RX.out.cell (i := 4) (by decide)
  have x5 := RX.out.cell (i := 5) (by decide)
  have x6 := RX.out.cell (i := 6) (by decide)
  have x7 := RX.out.cell (i := 7) (by decide)
  have x8 := RX.out.cell (i := 8) (by decide)
  have x9 := RX.out.cell (i := 9) (by decide)
  have x10 := RX.out.cell (i := 10) (by decide)
  have x11 := RX.out.cell (i := 11) (by decide)
  have x12 := RX.out.cell (i := 12) (by decide)
  have x13 := RX.out.cell (i := 13) (by decide)
  simp only [lrow] at x0 x1 x2 x3 x4 x5 x6 x7 x8 x9 x10 x11 x12 x13
  have y0 := RY.out.cell (i := 0) (by decide)
  have y1 := RY.out.cell (i := 1) (by decide)
  have y2 := RY.out.cell (i := 2) (by decide)
  have y3 := RY.out.cell (i := 3) (by decide)
  have y4 := RY.out.cell (i := 4) (by decide)
  have y5 := RY.out.cell (i := 5) (by decide)
  have y6 := RY.out.cell (i := 6) (by decide)
  have y7 := RY.out.cell (i := 7) (by decide)
  have y8 := RY.out.cell (i := 8) (by decide)
  have y9 := RY.out.cell (i := 9) (by decide)
  have y10 := RY.out.cell (i := 10) (by decide)
  have y11 := RY.out.cell (i := 11) (by decide)
  have y12 := RY.out.cell (i := 12) (by decide)
  have y13 := RY.out.cell (i := 13) (by decide)
  simp only [lrow] at y0 y1 y2 y3 y4 y5 y6 y7 y8 y9 y10 y11 y12 y13
  clear h h' hc hd B0 B1 R0 R1
  simp only [vl]
  by_cases q_ph : c.ph = d.ph
  rotate_left
  · have HH := hide q_ph
    have hb : (c.ph != d.ph) = true := by simp [q_ph]
    clear q_ph
    go_enter Tryz.func20, Tryz.ntmps20
    go_wp2_with fail
    go_ret
    exact ⟨Tells.no (fun h => HH.out h.ph), HB.out⟩
  have H_ph := hide q_ph
  have b_ph : (c.ph != d.ph) = false := by simp [q_ph]
  clear q_ph
  by_cases q_co : c.co = d.co
  rotate_left
  · have HH := hide q_co
    have hb : (c.co != d.co) = true := by simp [q_co]
    clear q_co
    go_enter Tryz.func20, Tryz.ntmps20
    go_wp2_with fail
    go_ret
    exact ⟨Tells.no (fun h => HH.out h.co), HB.out⟩
  have H_co := hide q_co
  have b_co : (c.co != d.co) = false := by simp [q_co]
  clear q_co
  by_cases q_ro : c.ro = d.ro
  rotate_left
  · have HH := hide q_ro
    have hb : (c.ro != d.ro) = true := by simp [q_ro]
    clear q_ro
    go_enter Tryz.func20, Tryz.ntmps20
    go_wp2_with fail
    go_ret
    exact ⟨Tells.no (fun h => HH.out h.ro), HB.out⟩
  have H_ro := hide q_ro
  have b_ro : (c.ro != d.ro) = false := by simp [q_ro]
  clear q_ro
  by_cases q_cn : (c.cn 0 = d.cn 0 ∧ c.cn 1 = d.cn 1 ∧ c.cn 2 = d.cn 2 ∧ c.cn 3 = d.cn 3)
  rotate_left
  · have HH := hide q_cn
    have hb := fun w => arr_neb (c.cn 0) (c.cn 1) (c.cn 2) (c.cn 3) (d.cn 0) (d.cn 1) (d.cn 2) (d.cn 3) w false (by simp only [Bool.and_eq_false_iff, beq_eq_false_iff_ne]; (by_cases z0 : c.cn 0 = d.cn 0) <;> (by_cases z1 : c.cn 1 = d.cn 1) <;> (by_cases z2 : c.cn 2 = d.cn 2) <;> simp_all)
    clear q_cn
    go_enter Tryz.func20, Tryz.ntmps20
    go_wp2_with fail
    go_ret
    exact ⟨Tells.no (fun h => HH.out h.cn), HB.out⟩
  have H_cn := hide q_cn
  have b_cn := fun w => arr_neb (c.cn 0) (c.cn 1) (c.cn 2) (c.cn 3) (d.cn 0) (d.cn 1) (d.cn 2) (d.cn 3) w true (by simp [q_cn])
  clear q_cn
  by_cases q_nr : c.nr = d.nr
  rotate_left
  · have HH := hide q_nr
    have hb : ((c.nr : Int) != (d.nr : Int)) = true := by simp; omega
    clear q_nr
    go_enter Tryz.func20, Tryz.ntmps20
    go_wp2_with fail
    go_ret
    exact ⟨Tells.no (fun h => HH.out h.rt.1), HB.out⟩
  have H_nr := hide q_nr
  have b_nr : ((c.nr : Int) != (d.nr : Int)) = false := by simp; omega
  clear q_nr
  by_cases q_no : c.no = d.no
  rotate_left
  · have HH := hide q_no
    have hb : ((c.no : Int) != (d.no : Int)) = true := by simp; omega
    clear q_no
    go_enter Tryz.func20, Tryz.ntmps20
    go_wp2_with fail
    go_ret
    exact ⟨Tells.no (fun h => HH.out h.ob.1), HB.out⟩
  have H_no := hide q_no
  have b_no : ((c.no : Int) != (d.no : Int)) = false := by simp; omega
  clear q_no
  go_enter Tryz.func20, Tryz.ntmps20
  go_upto_region 3 with (fail)
  clear x0 x1 x2 x3 x4 x5 x6 x7 x8 x9 x10 x11 x12 x13 y0 y1 y2 y3 y4 y5 y6 y7 y8 y9 y10 y11 y12 y13 b_ph b_co b_ro b_cn b_nr b_no
  have x4 := RX.out.cell (i := 4) (by decide)
  simp only [lrow] at x4
  go_wp2_with fail
  go_loopw [5] (fun i wr => ∃ k : Nat, k ≤ c.nr ∧ i = .int .i64 k ∧ Hid (Below W1.heap.size W1 wr) ∧ Hid (∀ j, j < k → c.rn j = d.rn j ∧ ∀ i, i < c.rn j → c.rt j i = d.rt j i)) (fun i _ => c.nr - (intOf i).toNat)
  case atStart => exact ⟨0, Nat.zero_le _, rfl, Below.refl _ _, fun j hj => absurd hj (by omega)⟩
  case round =>
    obtain ⟨k, hk, rfl, HW, HK⟩ := hrel
    clear x4
    have x4 := (row_on RX.out HW.out).cell (i := 4) (by decide)
    simp only [lrow] at x4
    have y4 := (row_on RY.out HW.out).cell (i := 4) (by decide)
    simp only [lrow] at y4
    by_cases hlt : k < c.nr
    · have hkn : (k : Int) < (c.nr : Int) := by omega
      have hkm : (k : Int) < (d.nr : Int) := by have := H_nr.out; omega
      have hlm : k < d.nr := by have := H_nr.out; omega
      have Sw := HS.out.below HW.out
      have Sw' := HT.out.below HW.out
      obtain ⟨b, off, ai, ci, hra, hbl, hcc, hse⟩ := Sw.rt k hlt
      obtain ⟨b', off', aj, cj, hra', hbl', hcc', hse'⟩ := Sw'.rt k hlm
      rw [hra] at x4
      rw [hra'] at y4
      have SG := hide (fun m => same13g (w := wr.drewN m) (cap := ci) (cap' := cj) (B := wr.heap.size) (B' := wr.heap.size) hse hse' (HC.out.rn k hlt) (HD.out.rn k hlm))
      clear Sw Sw' hra hra' hse hse'
      by_cases he : c.rn k = d.rn k ∧ ∀ i, i < c.rn k → c.rt k i = d.rt k i
      · have HE := hide he
        clear he
        go_upto_region 6 with (fail)
        go_quiet ((go_at_call 42; exact Calls.quiet_of (yesQ (SG.out _) HE.out)))
        go_wp2
        go_roundw
        case rel => exact ⟨k + 1, by omega, by go_num, below_drewN HW.out _, fun j hj => if h : j = k then h ▸ HE.out else HK.out j (by omega)⟩
        case measure => simp [intOf]; omega
      · have HE := hide he
        clear he
        go_upto_region 6 with (fail)
        go_quiet ((go_at_call 42; exact Calls.quiet_of (noQ (SG.out _) HE.out)))
        go_wp2
        go_ret
        exact ⟨Tells.no (fun h => HE.out (h.rt.2 k hlt)), HB.out.trans ((below_drewN HW.out _).mono HB.out.size)⟩
    · have hkn : ¬ (k : Int) < (c.nr : Int) := by omega
      have e : k = c.nr := by omega
      have HR : Hid (c.nr = d.nr ∧ ∀ j, j < c.nr → c.rn j = d.rn j ∧ ∀ i, i < c.rn j → c.rt j i = d.rt j i) := ⟨H_nr.out, by rw [← e]; exact HK.out⟩
      clear e HK
      obtain ⟨V, hV⟩ : ∃ V, V = wr := ⟨_, rfl⟩
      subst hV
      have HWV := hide HW.out
      clear HW y4
      have x6 := (row_on RX.out HWV.out).cell (i := 6) (by decide)
      simp only [lrow] at x6
      go_wp2_with fail
      clear x4 x6
      go_loopw [6] (fun i wr => ∃ k : Nat, k ≤ c.no ∧ i = .int .i64 k ∧ Hid (Below V.heap.size V wr) ∧ Hid (∀ j, j < k → ObE (c.ob j) (d.ob j))) (fun i _ => c.no - (intOf i).toNat)
      case atStart => exact ⟨0, Nat.zero_le _, rfl, Below.refl _ _, fun j hj => absurd hj (by omega)⟩
      case round =>
        obtain ⟨k, hk, rfl, HW, HK⟩ := hrel
        have HWV := hide (HWV.out.trans (HW.out.mono HWV.out.size))
        have HBr := hide (HB.out.trans (HWV.out.mono HB.out.size))
        have x6 := (row_on RX.out HWV.out).cell (i := 6) (by decide)
        simp only [lrow] at x6
        by_cases hlt : k < c.no
        · have hkn : (k : Int) < (c.no : Int) := by omega
          have hkm : (k : Int) < (d.no : Int) := by have := H_no.out; omega
          have hlm : k < d.no := by have := H_no.out; omega
          obtain ⟨b, off, ai, ci, hoa, hbl, hoc, hse⟩ := (HS.out.below HWV.out).ob k hlt
          obtain ⟨b', off', aj, cj, hoa', hbl', hoc', hse'⟩ := (HT.out.below HWV.out).ob k hlm
          have RX6 := hide (fun (V2 : World) (hb : Below wr.heap.size wr V2) => (row_on RX.out (HWV.out.trans (hb.mono HWV.out.size))).cell (i := 6) (by decide))
          have RY6 := hide (fun (V2 : World) (hb : Below wr.heap.size wr V2) => (row_on RY.out (HWV.out.trans (hb.mono HWV.out.size))).cell (i := 6) (by decide))
          simp only [lrow] at RX6 RY6
          rw [hoa] at x6 RX6
          rw [hoa'] at RY6
          obtain ⟨bv, hbv⟩ : ∃ bv : Bool, (bv = true ↔ ObE (c.ob k) (d.ob k)) := by
            by_cases he : ObE (c.ob k) (d.ob k)
            · exact ⟨true, by simp [he]⟩
            · exact ⟨false, by simp [he]⟩
          have HBV := hide hbv
          clear hbv
          have SO := hide (fun (w1 : World) (hS : Below wr.heap.size wr w1) => sobj (bv := bv) HBV.out (ci := ci) (cj := cj) (sees_on hse hS) (sees_on hse' hS) (HC.out.ns k hlt) (HD.out.ns k hlm))
          clear hoa hoa' hse hse'
          go_upto_region 11 with (fail)
          refine LtH.region2 (ks := [(0, 77), (1, 78), (2, 79), (3, 80), (4, 81), (5, 82), (6, 83), (7, 84), (8, 85), (9, 86)]) (vals := fun iv => match iv with | 0 => .pointer (some ⟨w.heap.size, 6, none⟩) | 1 => .slice (some ⟨b, off, none⟩) c.no a.cb | 2 => .int .i64 (k : Int) | 3 => .pointer (some ⟨b, off + k * 9, none⟩) | 4 => .agg (Ob.cells (c.ob k) (.slice ai (c.ob k).ns ci)).toArray | 5 => .pointer (some ⟨W0.heap.size, 6, none⟩) | 6 => .slice (some ⟨b', off', none⟩) d.no b2.cb | 7 => .int .i64 (k : Int) | 8 => .pointer (some ⟨b', off' + k * 9, none⟩) | 9 => .agg (Ob.cells (d.ob k) (.slice aj (d.ob k).ns cj)).toArray | _ => undef) (xs := [87, 88]) (WI := LtC.WI [10, 11] 10 9 (OSb wr bv)) (by kernel_rfl) ?Agd ?Abk rfl ?Add ?Axx ?Alc ?Ast ?Ado ?Afi
          case Agd =>
            intro iq oq ho
            have hiq : iq < 12 := by have := (Array.getElem?_eq_some_iff.1 ho).1; simpa using this
            match iq, hiq with
            | 0, _ | 1, _ | 2, _ | 3, _ | 4, _ | 5, _ | 6, _ | 7, _ | 8, _ | 9, _ | 10, _ | 11, _ => injection ho with ho; subst ho; rfl
          case Abk =>
            intro iq oq ho
            have hiq : iq < 12 := by have := (Array.getElem?_eq_some_iff.1 ho).1; simpa using this
            match iq, hiq with
            | 0, _ | 1, _ | 2, _ | 3, _ | 4, _ | 5, _ | 6, _ | 7, _ | 8, _ | 9, _ | 10, _ | 11, _ => injection ho with ho; subst ho; simp [Region.binds]
          case Add =>
            intro kq hk
            have hk2 : kq < 122 := by
              simp [Lt.D] at hk
              omega
            exact hk2
          case Axx =>
            intro kq hk
            have hk2 : kq < 122 := by
              simp at hk
              omega
            exact hk2
          case Alc =>
            rintro L s1 s2 w1 hx ⟨⟨n1, h1, h2, h3⟩, h4⟩
            exact ⟨⟨n1, h1, h2, OSb.local (hx 87 rfl) (hx 88 rfl) h3⟩, h4⟩
          case Ast => exact LtC.WI.start ⟨rfl, rfl, rfl, Nat.le_refl _, fun _ _ => rfl⟩
          case Ado =>
            intro iq oq ho
            have hiq : iq < 12 := by have := (Array.getElem?_eq_some_iff.1 ho).1; simpa using this
            match iq, hiq with
            | 0, _ => injection ho with ho; subst ho; exact LtC.read rfl rfl rfl (fun L a w' hI hL hq => Lt.ex_field rfl (hI.fix 2 (Lt.notD rfl) rfl) (by simp [go_sem]))
            | 1, _ => injection ho with ho; subst ho; exact LtC.read rfl rfl rfl (fun L a w' hI hL hq => Lt.ex_load rfl (hI.pure 0 _ _ rfl (hq ⟨0, .data⟩ (by simp) rfl)) (by simp [go_sem]) (by obtain ⟨n1, hn1⟩ := hI.world.any; exact RX6.out _ (OSb.low hn1)))
            | 2, _ => injection ho with ho; subst ho; exact LtC.read rfl rfl rfl (fun L a w' hI hL hq => Lt.ex_move rfl (hI.fix 6 (Lt.notD rfl) rfl))
            | 3, _ => injection ho with ho; subst ho; exact LtC.read rfl rfl rfl (fun L a w' hI hL hq => ex_idx9g rfl (hI.pure 1 _ _ rfl (hq ⟨1, .data⟩ (by simp) rfl)) (hI.pure 2 _ _ rfl (hq ⟨2, .data⟩ (by simp) rfl)) hkn)
            | 4, _ => injection ho with ho; subst ho; exact LtC.read rfl rfl rfl (fun L a w' hI hL hq => Lt.ex_load_row rfl (hI.pure 3 _ _ rfl (hq ⟨3, .data⟩ (by simp) rfl)) (by obtain ⟨n1, hn1⟩ := hI.world.any; exact rng9 hbl (OSb.low hn1) hoc) (by kernel_rfl) (by kernel_rfl))
            | 5, _ => injection ho with ho; subst ho; exact LtC.read rfl rfl rfl (fun L a w' hI hL hq => Lt.ex_field rfl (hI.fix 3 (Lt.notD rfl) rfl) (by simp [go_sem]))
            | 6, _ => injection ho with ho; subst ho; exact LtC.read rfl rfl rfl (fun L a w' hI hL hq => Lt.ex_load rfl (hI.pure 5 _ _ rfl (hq ⟨5, .data⟩ (by simp) rfl)) (by simp [go_sem]) (by obtain ⟨n1, hn1⟩ := hI.world.any; exact RY6.out _ (OSb.low hn1)))
            | 7, _ => injection ho with ho; subst ho; exact LtC.read rfl rfl rfl (fun L a w' hI hL hq => Lt.ex_move rfl (hI.fix 6 (Lt.notD rfl) rfl))
            | 8, _ => injection ho with ho; subst ho; exact LtC.read rfl rfl rfl (fun L a w' hI hL hq => ex_idx9g rfl (hI.pure 6 _ _ rfl (hq ⟨6, .data⟩ (by simp) rfl)) (hI.pure 7 _ _ rfl (hq ⟨7, .data⟩ (by simp) rfl)) hkm)
            | 9, _ => injection ho with ho; subst ho; exact LtC.read rfl rfl rfl (fun L a w' hI hL hq => Lt.ex_load_row rfl (hI.pure 8 _ _ rfl (hq ⟨8, .data⟩ (by simp) rfl)) (by obtain ⟨n1, hn1⟩ := hI.world.any; exact rng9 hbl' (OSb.low hn1) hoc') (by kernel_rfl) (by kernel_rfl))
            | 10, _ => injection ho with ho; subst ho; exact LtC.call (m := 0) (args := fun _ => #[.agg (Ob.cells (c.ob k) (.slice ai (c.ob k).ns ci)).toArray, .agg (Ob.cells (d.ob k) (.slice aj (d.ob k).ns cj)).toArray]) (by decide) rfl rfl rfl rfl (fun L hq e => hq ⟨9, .data⟩ (by simp) rfl) (fun L hq m1 j1 e1 _ => absurd e1 (by omega)) (fun L a w' hI hq hS => Lt.call2 rfl (hI.pure 4 _ _ rfl (hq ⟨4, .data⟩ (by simp) rfl)) (hI.pure 9 _ _ rfl (hq ⟨9, .data⟩ (by simp) rfl)) rfl (by simp [go_sem])) (fun s1 w1 hS => (SO.out w1 hS).mono (by rintro e w2 ⟨rfl, hb2⟩; exact ⟨_, rfl, Below.trans hS (hb2.mono hS.size), by simp⟩))
            | 11, _ => injection ho with ho; subst ho; exact LtC.link (m := 1) (by decide) rfl rfl rfl rfl (fun L _ e => absurd e (by decide)) (fun L hq m1 j1 e1 hj => by (cases (show m1 = 0 from (by omega))); cases hj; exact hq ⟨10, .data⟩ (by simp) rfl) (fun L a w' Kq hI hq hS hk => Lt.wp_value (ex_not rfl hS.2) (hk _ _ ⟨hS.1, by simp⟩))
          case Afi =>
            intro L a' w' hI hall
            obtain ⟨hb9, e88⟩ := hI.world.done (fun i hi => hall i (by simp at hi ⊢; omega))
            have hfr := LtH.frame hI [77, 78, 79, 80, 81, 82, 83, 84, 85, 86, 87, 88] rfl rfl (fun x hx => by simp at hx ⊢; omega)
            obtain ⟨t77, e77⟩ : ∃ t, a'.eval (.tmp 77) = t := ⟨_, rfl⟩
            obtain ⟨t78, e78⟩ : ∃ t, a'.eval (.tmp 78) = t := ⟨_, rfl⟩
            obtain ⟨t79, e79⟩ : ∃ t, a'.eval (.tmp 79) = t := ⟨_, rfl⟩
            obtain ⟨t80, e80⟩ : ∃ t, a'.eval (.tmp 80) = t := ⟨_, rfl⟩
            obtain ⟨t81, e81⟩ : ∃ t, a'.eval (.tmp 81) = t := ⟨_, rfl⟩
            obtain ⟨t82, e82⟩ : ∃ t, a'.eval (.tmp 82) = t := ⟨_, rfl⟩
            obtain ⟨t83, e83⟩ : ∃ t, a'.eval (.tmp 83) = t := ⟨_, rfl⟩
            obtain ⟨t84, e84⟩ : ∃ t, a'.eval (.tmp 84) = t := ⟨_, rfl⟩
            obtain ⟨t85, e85⟩ : ∃ t, a'.eval (.tmp 85) = t := ⟨_, rfl⟩
            obtain ⟨t86, e86⟩ : ∃ t, a'.eval (.tmp 86) = t := ⟨_, rfl⟩
            obtain ⟨t87, e87⟩ : ∃ t, a'.eval (.tmp 87) = t := ⟨_, rfl⟩
            simp only at e88
            rw [hfr]
            simp only [LtH.lay, List.foldl, e77, e78, e79, e80, e81, e82, e83, e84, e85, e86, e87, e88]
            have HB9 := hide (HW.out.trans (hb9.mono HW.out.size))
            have HBr9 := hide (HBr.out.trans (hb9.mono HBr.out.size))
            clear hfr hI hall e77 e78 e79 e80 e81 e82 e83 e84 e85 e86 e87 e88 hb9 hoc hoc' x6 hW0 hW1 l0 l1 hbl hbl' HB SO RX6 RY6
            simp only [Act.put, List.setIfInBounds_toArray, List.set_cons_succ, List.set_cons_zero]
            cases bv
            · go_wp2_with fail
              go_ret
              exact ⟨Tells.no (fun h => absurd (HBV.out.2 (h.ob.2 k hlt)) (by decide)), HBr9.out⟩
            · go_wp2_with fail
              go_roundw
              case rel => exact ⟨k + 1, by omega, by go_num, HB9.out, fun j hj => if h : j = k then h ▸ HBV.out.1 rfl else HK.out j (by omega)⟩
              case measure => simp [intOf]; omega
        · have hkn : ¬ (k : Int) < (c.no : Int) := by omega
          have e : k = c.no := by omega
          have HO : Hid (c.no = d.no ∧ ∀ j, j < c.no → ObE (c.ob j) (d.ob j)) := ⟨H_no.out, by rw [← e]; exact HK.out⟩
          clear e HK HW x6
          have HB00 := HWV
          have x3 := (row_on RX.out HB00.out).cell (i := 3) (by decide)
          have x6 := (row_on RX.out HB00.out).cell (i := 6) (by decide)
          simp only [lrow] at x3 x6
          have y3 := (row_on RY.out HB00.out).cell (i := 3) (by decide)
          simp only [lrow] at y3
          by_cases q_ac : (c.na = d.na ∧ ∀ i, i < c.na → c.ac i = d.ac i)
          rotate_left
          · have HH := hide q_ac
            clear q_ac
            go_wp2_with (first
                | (go_at_call 42; with_reducible refine (E0.out _ HB00.out).mono ?_; rintro e v1 ⟨ht, hb⟩; obtain rfl := ht.isnt HH.out; have HB01 := hide (HB00.out.trans (hb.mono HB00.out.size)); clear ht hb; have x5 := (row_on RX.out HB01.out).cell (i := 5) (by decide); have y5 := (row_on RY.out HB01.out).cell (i := 5) (by decide); simp only [lrow] at x5 y5))
            go_ret
            exact ⟨Tells.no (fun h => HH.out h.ac), HB.out.trans (HB01.out.mono HB.out.size)⟩
          have H_ac := hide q_ac
          clear q_ac
          by_cases q_wk : (c.nw = d.nw ∧ ∀ i, i < c.nw → c.wk i = d.wk i)
          rotate_left
          · have HH := hide q_wk
            clear q_wk
            go_wp2_with (first
                | (go_at_call 42; with_reducible refine (E0.out _ HB00.out).mono ?_; rintro e v1 ⟨ht, hb⟩; obtain rfl := ht.is H_ac.out; have HB01 := hide (HB00.out.trans (hb.mono HB00.out.size)); clear ht hb; have x5 := (row_on RX.out HB01.out).cell (i := 5) (by decide); have y5 := (row_on RY.out HB01.out).cell (i := 5) (by decide); simp only [lrow] at x5 y5)
                | (go_at_call 42; with_reducible refine (E1.out _ HB01.out).mono ?_; rintro e v2 ⟨ht, hb⟩; obtain rfl := ht.isnt HH.out; have HB02 := hide (HB01.out.trans (hb.mono HB01.out.size)); clear ht hb; have x7 := (row_on RX.out HB02.out).cell (i := 7) (by decide); have y7 := (row_on RY.out HB02.out).cell (i := 7) (by decide); simp only [lrow] at x7 y7))
            go_ret
            exact ⟨Tells.no (fun h => HH.out h.wk), HB.out.trans (HB02.out.mono HB.out.size)⟩
          have H_wk := hide q_wk
          clear q_wk
          by_cases q_fr : (c.fr = d.fr)
          rotate_left
          · have HH := hide q_fr
            clear q_fr
            go_wp2_with (first
                | (go_at_call 42; with_reducible refine (E0.out _ HB00.out).mono ?_; rintro e v1 ⟨ht, hb⟩; obtain rfl := ht.is H_ac.out; have HB01 := hide (HB00.out.trans (hb.mono HB00.out.size)); clear ht hb; have x5 := (row_on RX.out HB01.out).cell (i := 5) (by decide); have y5 := (row_on RY.out HB01.out).cell (i := 5) (by decide); simp only [lrow] at x5 y5)
                | (go_at_call 42; with_reducible refine (E1.out _ HB01.out).mono ?_; rintro e v2 ⟨ht, hb⟩; obtain rfl := ht.is H_wk.out; have HB02 := hide (HB01.out.trans (hb.mono HB01.out.size)); clear ht hb; have x7 := (row_on RX.out HB02.out).cell (i := 7) (by decide); have y7 := (row_on RY.out HB02.out).cell (i := 7) (by decide); simp only [lrow] at x7 y7)
                | (go_at_call 44; with_reducible refine (E2.out _ HB02.out).mono ?_; rintro e v3 ⟨ht, hb⟩; obtain rfl := ht.isnt HH.out; have HB03 := hide (HB02.out.trans (hb.mono HB02.out.size)); clear ht hb; have x8 := (row_on RX.out HB03.out).cell (i := 8) (by decide); have y8 := (row_on RY.out HB03.out).cell (i := 8) (by decide); simp only [lrow] at x8 y8))
            go_ret
            exact ⟨Tells.no (fun h => HH.out h.fr), HB.out.trans (HB03.out.mono HB.out.size)⟩
          have H_fr := hide q_fr
          clear q_fr
          by_cases q_gr : (c.gr = d.gr)
          rotate_left
          · have HH := hide q_gr
            clear q_gr
            go_wp2_with (first
                | (go_at_call 42; with_reducible refine (E0.out _ HB00.out).mono ?_; rintro e v1 ⟨ht, hb⟩; obtain rfl := ht.is H_ac.out; have HB01 := hide (HB00.out.trans (hb.mono HB00.out.size)); clear ht hb; have x5 := (row_on RX.out HB01.out).cell (i := 5) (by decide); have y5 := (row_on RY.out HB01.out).cell (i := 5) (by decide); simp only [lrow] at x5 y5)
                | (go_at_call 42; with_reducible refine (E1.out _ HB01.out).mono ?_; rintro e v2 ⟨ht, hb⟩; obtain rfl := ht.is H_wk.out; have HB02 := hide (HB01.out.trans (hb.mono HB01.out.size)); clear ht hb; have x7 := (row_on RX.out HB02.out).cell (i := 7) (by decide); have y7 := (row_on RY.out HB02.out).cell (i := 7) (by decide); simp only [lrow] at x7 y7)
                | (go_at_call 44; with_reducible refine (E2.out _ HB02.out).mono ?_; rintro e v3 ⟨ht, hb⟩; obtain rfl := ht.is H_fr.out; have HB03 := hide (HB02.out.trans (hb.mono HB02.out.size)); clear ht hb; have x8 := (row_on RX.out HB03.out).cell (i := 8) (by decide); have y8 := (row_on RY.out HB03.out).cell (i := 8) (by decide); simp only [lrow] at x8 y8)
                | (go_at_call 44; with_reducible refine (E3.out _ HB03.out).mono ?_; rintro e v4 ⟨ht, hb⟩; obtain rfl := ht.isnt HH.out; have HB04 := hide (HB03.out.trans (hb.mono HB03.out.size)); clear ht hb; have x9 := (row_on RX.out HB04.out).cell (i := 9) (by decide); have y9 := (row_on RY.out HB04.out).cell (i := 9) (by decide); simp only [lrow] at x9 y9))
            go_ret
            exact ⟨Tells.no (fun h => HH.out h.gr), HB.out.trans (HB04.out.mono HB.out.size)⟩
          have H_gr := hide q_gr
          clear q_gr
          by_cases q_qu : (c.qu = d.qu)
          rotate_left
          · have HH := hide q_qu
            clear q_qu
            go_wp2_with (first
                | (go_at_call 42; with_reducible refine (E0.out _ HB00.out).mono ?_; rintro e v1 ⟨ht, hb⟩; obtain rfl := ht.is H_ac.out; have HB01 := hide (HB00.out.trans (hb.mono HB00.out.size)); clear ht hb; have x5 := (row_on RX.out HB01.out).cell (i := 5) (by decide); have y5 := (row_on RY.out HB01.out).cell (i := 5) (by decide); simp only [lrow] at x5 y5)
                | (go_at_call 42; with_reducible refine (E1.out _ HB01.out).mono ?_; rintro e v2 ⟨ht, hb⟩; obtain rfl := ht.is H_wk.out; have HB02 := hide (HB01.out.trans (hb.mono HB01.out.size)); clear ht hb; have x7 := (row_on RX.out HB02.out).cell (i := 7) (by decide); have y7 := (row_on RY.out HB02.out).cell (i := 7) (by decide); simp only [lrow] at x7 y7)
                | (go_at_call 44; with_reducible refine (E2.out _ HB02.out).mono ?_; rintro e v3 ⟨ht, hb⟩; obtain rfl := ht.is H_fr.out; have HB03 := hide (HB02.out.trans (hb.mono HB02.out.size)); clear ht hb; have x8 := (row_on RX.out HB03.out).cell (i := 8) (by decide); have y8 := (row_on RY.out HB03.out).cell (i := 8) (by decide); simp only [lrow] at x8 y8)
                | (go_at_call 44; with_reducible refine (E3.out _ HB03.out).mono ?_; rintro e v4 ⟨ht, hb⟩; obtain rfl := ht.is H_gr.out; have HB04 := hide (HB03.out.trans (hb.mono HB03.out.size)); clear ht hb; have x9 := (row_on RX.out HB04.out).cell (i := 9) (by decide); have y9 := (row_on RY.out HB04.out).cell (i := 9) (by decide); simp only [lrow] at x9 y9)
                | (go_at_call 44; with_reducible refine (E4.out _ HB04.out).mono ?_; rintro e v5 ⟨ht, hb⟩; obtain rfl := ht.isnt HH.out; have HB05 := hide (HB04.out.trans (hb.mono HB04.out.size)); clear ht hb))
            go_ret
            exact ⟨Tells.no (fun h => HH.out h.qu), HB.out.trans (HB05.out.mono HB.out.size)⟩
          have H_qu := hide q_qu
          clear q_qu
          go_wp2_with (first
                | (go_at_call 42; with_reducible refine (E0.out _ HB00.out).mono ?_; rintro e v1 ⟨ht, hb⟩; obtain rfl := ht.is H_ac.out; have HB01 := hide (HB00.out.trans (hb.mono HB00.out.size)); clear ht hb; have x5 := (row_on RX.out HB01.out).cell (i := 5) (by decide); have y5 := (row_on RY.out HB01.out).cell (i := 5) (by decide); simp only [lrow] at x5 y5)
                | (go_at_call 42; with_reducible refine (E1.out _ HB01.out).mono ?_; rintro e v2 ⟨ht, hb⟩; obtain rfl := ht.is H_wk.out; have HB02 := hide (HB01.out.trans (hb.mono HB01.out.size)); clear ht hb; have x7 := (row_on RX.out HB02.out).cell (i := 7) (by decide); have y7 := (row_on RY.out HB02.out).cell (i := 7) (by decide); simp only [lrow] at x7 y7)
                | (go_at_call 44; with_reducible refine (E2.out _ HB02.out).mono ?_; rintro e v3 ⟨ht, hb⟩; obtain rfl := ht.is H_fr.out; have HB03 := hide (HB02.out.trans (hb.mono HB02.out.size)); clear ht hb; have x8 := (row_on RX.out HB03.out).cell (i := 8) (by decide); have y8 := (row_on RY.out HB03.out).cell (i := 8) (by decide); simp only [lrow] at x8 y8)
                | (go_at_call 44; with_reducible refine (E3.out _ HB03.out).mono ?_; rintro e v4 ⟨ht, hb⟩; obtain rfl := ht.is H_gr.out; have HB04 := hide (HB03.out.trans (hb.mono HB03.out.size)); clear ht hb; have x9 := (row_on RX.out HB04.out).cell (i := 9) (by decide); have y9 := (row_on RY.out HB04.out).cell (i := 9) (by decide); simp only [lrow] at x9 y9)
                | (go_at_call 44; with_reducible refine (E4.out _ HB04.out).mono ?_; rintro e v5 ⟨ht, hb⟩; obtain rfl := ht.is H_qu.out; have HB05 := hide (HB04.out.trans (hb.mono HB04.out.size)); clear ht hb))
          go_ret
          exact ⟨Tells.yes ⟨H_ph.out, H_co.out, H_ro.out, H_cn.out, H_ac.out, HR.out, H_wk.out, HO.out, H_fr.out, H_gr.out, H_qu.out⟩, HB.out.trans (HB05.out.mono HB.out.size)⟩
end Vw
end Go.Proofs.YtecjegjnnahddaaGreat
