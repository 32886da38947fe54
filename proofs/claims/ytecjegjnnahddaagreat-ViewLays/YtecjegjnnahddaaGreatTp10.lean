/-
  Lemmas: VwSm.
-/
import Derived.Test.YtecjegjnnahddaaGreatTp09
/-
  View: Same: two views that show the same
-/
namespace Go.Proofs.YtecjegjnnahddaaGreat
open Go.RowKit
set_option linter.unusedVariables false
set_option linter.unusedSimpArgs false
set_option linter.unnecessarySimpa false
set_option maxRecDepth 20000
namespace Vw
open Shape

/-- What a comparison of two objects leaves, link by link. -/
def OS (wr : World) : Nat → (Nat → Value) → World → Prop
  | 0, s, w => Below wr.heap.size wr w
  | 1, s, w => Below wr.heap.size wr w ∧ s 87 = .bool true
  | _, s, w => Below wr.heap.size wr w ∧ s 88 = .bool false
theorem OS.local {wr : World} {n : Nat} {s s' : Nat → Value} {w : World} (h1 : s 87 = s' 87) (h2 : s 88 = s' 88) (h : OS wr n s w) : OS wr n s' w := by
  match n, h with
  | 0, h => exact h
  | 1, h => simp only [OS] at h ⊢; rw [← h1]; exact h
  | n + 2, h => simp only [OS] at h ⊢; rw [← h2]; exact h
theorem OS.low {wr : World} {n : Nat} {s : Nat → Value} {w : World} (h : OS wr n s w) : Below wr.heap.size wr w := by
  match n, h with
  | 0, h => exact h
  | 1, h => exact h.1
  | n + 2, h => exact h.1
theorem ex_not {ev : Operand → Value} {o : Oper} {w : World} {x : Operand} {b : Bool} (ho : o.op = .unOp .not 4 x) (hx : ev x = .bool b) : (execOp ev o).run Tryz.prog w = .ok (.value (.bool (!b))) w := by
  simp [execOp, ho, hx, go_sem]
theorem ex_idx9 {ev : Operand → Value} {o : Oper} {w : World} {x y : Operand} {b off n cap k : Nat} (ho : o.op = .indexAddr 27 x y) (hx : ev x = .slice (some ⟨b, off, none⟩) n cap) (hy : ev y = .int .i64 (k : Int)) (hk : (k : Int) < (n : Int)) (hn : n ≤ 70000) : (execOp ev o).run Tryz.prog w = .ok (.value (.pointer (some ⟨b, off + k * 9, none⟩))) w := by
  simp [execOp, ho, hx, hy, go_sem, hk]
theorem rng9 {w w' : World} {b off k : Nat} {x : Ob} {sv : Value} (hb : b < w.heap.size) (hl : Below w.heap.size w w') (h : ∀ q, q < 9 → w.cell? ⟨b, off + k * 9 + q, none⟩ = some (x.cell sv q)) : w'.rangeAt b (off + k * 9) (x.cells sv) := by
  intro j v hv
  have hj : j < 9 := by have := (List.getElem?_eq_some_iff.1 hv).1; simpa [Ob.cells] using this
  rw [Ob.cells_get x sv hj] at hv
  cases hv
  exact (hl.cell (p := ⟨b, off + k * 9 + j, none⟩) hb).trans (h j hj)
theorem uA : Tryz.prog.underlying 29 = some (.array 4 24) := by kernel_rfl
theorem eqU (d : Nat) (x : Int) (w : World) : (Op.equalIn (d + 1) 24 (.int .u64 x) (.int .u64 x)).run Tryz.prog w = .ok true w := by
  rw [run_equalIn_int w d 24 .u64 .u64 x x Tryz.underlying24]; simp
theorem arr_eq (d : Nat) (x0 x1 x2 x3 : Int) (w : World) : (Op.equalIn (d + 2) 29 (.agg #[.int .u64 x0, .int .u64 x1, .int .u64 x2, .int .u64 x3]) (.agg #[.int .u64 x0, .int .u64 x1, .int .u64 x2, .int .u64 x3])).run Tryz.prog w = .ok true w := by
  have hs : ∀ w, (sizeOf 24).run Tryz.prog w = .ok 1 w := fun w => by kernel_rfl
  have ha : ∀ w, (isAgg 24).run Tryz.prog w = .ok false w := fun w => by kernel_rfl
  have hp : ∀ (xs : Array Value) (i : Nat) (v : Value) (w : World), xs[i]? = some v → (part 24 xs i).run Tryz.prog w = .ok v w := fun xs i v w h => by
    simp [part, ha, h]
  rw [Op.equalIn]
  simp only [Sem.run_bind, run_underlying uA, Result.andThen_ok, hs]
  rw [Std.Legacy.Range.forIn_eq_forIn_range']
  simp [Std.Legacy.Range.size, List.range', hp, eqU]
theorem arr_neq (x0 x1 x2 x3 : Int) (w : World) : (binOp .neq 29 (.agg #[.int .u64 x0, .int .u64 x1, .int .u64 x2, .int .u64 x3]) (.agg #[.int .u64 x0, .int .u64 x1, .int .u64 x2, .int .u64 x3])).run Tryz.prog w = .ok (.bool false) w := by
  have h := arr_eq 9998 x0 x1 x2 x3 w
  simp [binOp, Op.equal]
  rw [show Op.maxDepth = 9998 + 2 from rfl, h]
  rfl
set_option maxHeartbeats 4000000 in
theorem same_ok {c : Cv} {a a' : Av} {w : World} (hS : Shows w c a) (hS' : Shows w c a') (hc : c.Ok) (hna : c.na ≤ 70000) : Calls Tryz.prog 20 #[vl c a, vl c a'] w fun e w' => e = .returned (.bool true) ∧ Below w.heap.size w w' := by
  obtain ⟨aa1, ca1, ra1, cr1, wa1, cw1, oa1, cb1, fa1, cf1, ga1, cg1, qa1, cq1⟩ := a
  obtain ⟨aa2, ca2, ra2, cr2, wa2, cw2, oa2, cb2, fa2, cf2, ga2, cg2, qa2, cq2⟩ := a'
  simp only [vl]
  obtain ⟨W0, hW0, B0, R0⟩ := vbox w c ⟨aa1, ca1, ra1, cr1, wa1, cw1, oa1, cb1, fa1, cf1, ga1, cg1, qa1, cq1⟩
  obtain ⟨W1, hW1, B1, R1⟩ := vbox W0 c ⟨aa2, ca2, ra2, cr2, wa2, cw2, oa2, cb2, fa2, cf2, ga2, cg2, qa2, cq2⟩
  simp only at hW0 hW1 R0 R1
  have HS := hide hS
  have HS' := hide hS'
  have hno := hc.no
  have hnr := hc.nr
  have HC := hide hc
  have l0 : w.heap.size < W0.heap.size := R0.lt
  have RX := hide (row_on R0 B1)
  have RY := hide R1
  have HB := hide (B0.trans (B1.mono B0.size))
  have x0 : W1.cell? ⟨w.heap.size, 0, none⟩ = some (.int .i64 c.ph) := RX.out.cell (i := 0) (by decide)
  have x1 : W1.cell? ⟨w.heap.size, 1, none⟩ = some (.int .i64 c.co) := RX.out.cell (i := 1) (by decide)
  have x2 : W1.cell? ⟨w.heap.size, 2, none⟩ = some (.int .u64 c.ro) := RX.out.cell (i := 2) (by decide)
  have x3 : W1.cell? ⟨w.heap.size, 3, none⟩ = some (.slice aa1 c.na ca1) := RX.out.cell (i := 3) (by decide)
  have x4 : W1.cell? ⟨w.heap.size, 4, none⟩ = some (.slice ra1 c.nr cr1) := RX.out.cell (i := 4) (by decide)
  have x5 : W1.cell? ⟨w.heap.size, 5, none⟩ = some (.slice wa1 c.nw cw1) := RX.out.cell (i := 5) (by decide)
  have x6 : W1.cell? ⟨w.heap.size, 6, none⟩ = some (.slice oa1 c.no cb1) := RX.out.cell (i := 6) (by decide)
  have x7 : W1.cell? ⟨w.heap.size, 7, none⟩ = some (.slice fa1 c.fr.length cf1) := RX.out.cell (i := 7) (by decide)
  have x8 : W1.cell? ⟨w.heap.size, 8, none⟩ = some (.slice ga1 c.gr.length cg1) := RX.out.cell (i := 8) (by decide)
  have x9 : W1.cell? ⟨w.heap.size, 9, none⟩ = some (.slice qa1 c.qu.length cq1) := RX.out.cell (i := 9) (by decide)
  have x10 : W1.cell? ⟨w.heap.size, 10, none⟩ = some (.int .u64 (c.cn 0)) := RX.out.cell (i := 10) (by decide)
  have x11 : W1.cell? ⟨w.heap.size, 11, none⟩ = some (.int .u64 (c.cn 1)) := RX.out.cell (i := 11) (by decide)
  have x12 : W1.cell? ⟨w.heap.size, 12, none⟩ = some (.int .u64 (c.cn 2)) := RX.out.cell (i := 12) (by decide)
  have x13 : W1.cell? ⟨w.heap.size, 13, none⟩ = some (.int .u64 (c.cn 3)) := RX.out.cell (i := 13) (by decide)
  have y0 : W1.cell? ⟨W0.heap.size, 0, none⟩ = some (.int .i64 c.ph) := R1.cell (i := 0) (by decide)
  have y1 : W1.cell? ⟨W0.heap.size, 1, none⟩ = some (.int .i64 c.co) := R1.cell (i := 1) (by decide)
  have y2 : W1.cell? ⟨W0.heap.size, 2, none⟩ = some (.int .u64 c.ro) := R1.cell (i := 2) (by decide)
  have y3 : W1.cell? ⟨W0.heap.size, 3, none⟩ = some (.slice aa2 c.na ca2) := R1.cell (i := 3) (by decide)
  have y4 : W1.cell? ⟨W0.heap.size, 4, none⟩ = some (.slice ra2 c.nr cr2) := R1.cell (i := 4) (by decide)
  have y5 : W1.cell? ⟨W0.heap.size, 5, none⟩ = some (.slice wa2 c.nw cw2) := R1.cell (i := 5) (by decide)
  have y6 : W1.cell? ⟨W0.heap.size, 6, none⟩ = some (.slice oa2 c.no cb2) := R1.cell (i := 6) (by decide)
  have y7 : W1.cell? ⟨W0.heap.size, 7, none⟩ = some (.slice fa2 c.fr.length cf2) := R1.cell (i := 7) (by decide)
  have y8 : W1.cell? ⟨W0.heap.size, 8, none⟩ = some (.slice ga2 c.gr.length cg2) := R1.cell (i := 8) (by decide)
  have y9 : W1.cell? ⟨W0.heap.size, 9, none⟩ = some (.slice qa2 c.qu.length cq2) := R1.cell (i := 9) (by decide)
  have y10 : W1.cell? ⟨W0.heap.size, 10, none⟩ = some (.int .u64 (c.cn 0)) := R1.cell (i := 10) (by decide)
  have y11 : W1.cell? ⟨W0.heap.size, 11, none⟩ = some (.int .u64 (c.cn 1)) := R1.cell (i := 11) (by decide)
  have y12 : W1.cell? ⟨W0.heap.size, 12, none⟩ = some (.int .u64 (c.cn 2)) := R1.cell (i := 12) (by decide)
  have y13 : W1.cell? ⟨W0.heap.size, 13, none⟩ = some (.int .u64 (c.cn 3)) := R1.cell (i := 13) (by decide)
  have arr := arr_neq (c.cn 0) (c.cn 1) (c.cn 2) (c.cn 3)
  clear R0 R1 B0 B1 hS hS' hc
  go_enter Tryz.func20, Tryz.ntmps20
  go_upto_region 3 with (fail)
  clear x0 x1 x2 x3 x5 x6 x7 x8 x9 x10 x11 x12 x13 y0 y1 y2 y3 y5 y6 y7 y8 y9 y10 y11 y12 y13
  go_wp2_with fail
  go_loopw [5] (fun i wr => ∃ k : Nat, k ≤ c.nr ∧ i = .int .i64 k ∧ Hid (Below W1.heap.size W1 wr)) (fun i _ => c.nr - (intOf i).toNat)
  case atStart => exact ⟨0, Nat.zero_le _, rfl, Below.refl _ _⟩
  case round =>
    obtain ⟨k, hk, rfl, HW⟩ := hrel
    have HBr := hide (HB.out.trans (HW.out.mono HB.out.size))
    have x4 : wr.cell? ⟨w.heap.size, 4, none⟩ = some (.slice ra1 c.nr cr1) := (row_on RX.out HW.out).cell (i := 4) (by decide)
    have y4 : wr.cell? ⟨W0.heap.size, 4, none⟩ = some (.slice ra2 c.nr cr2) := (row_on RY.out HW.out).cell (i := 4) (by decide)
    by_cases hlt : k < c.nr
    · have hkn : (k : Int) < (c.nr : Int) := by omega
      have Sw := HS.out.below HBr.out
      have Sw' := HS'.out.below HBr.out
      obtain ⟨b, off, ai, ci, hra, hbl, hcc, hse⟩ := Sw.rt k hlt
      obtain ⟨b', off', aj, cj, hra', hbl', hcc', hse'⟩ := Sw'.rt k hlt
      simp only at hra hra'
      subst hra hra'
      have HSE := hide hse
      have HSE' := hide hse'
      have hrn := HC.out.rn k hlt
      obtain ⟨nn, hnn⟩ : ∃ nn, c.rn k = nn := ⟨_, rfl⟩
      rw [hnn] at hcc hcc' HSE HSE' hrn
      clear hse hse' Sw Sw' hnn
      go_upto_region 6 with (fail)
      go_quiet ((go_at_call 42; exact Calls.quiet_of (by exact same13 (w := wr.drewN _) (HSE.out) (HSE'.out) (fun _ _ => rfl) (by omega))))
      go_wp2
      go_roundw
      case rel => exact ⟨k + 1, by omega, by go_num, below_drewN HW.out _⟩
      case measure => simp [intOf]; omega
    · have hkn : ¬ (k : Int) < (c.nr : Int) := by omega
      obtain ⟨V, hV⟩ : ∃ V, V = wr := ⟨_, rfl⟩
      subst hV
      have HWV := hide HW.out
      clear HW
      go_wp2_with fail
      go_loopw [6] (fun i wr => ∃ k : Nat, k ≤ c.no ∧ i = .int .i64 k ∧ Hid (Below V.heap.size V wr)) (fun i _ => c.no - (intOf i).toNat)
      case atStart => exact ⟨0, Nat.zero_le _, rfl, Below.refl _ _⟩
      case round =>
        obtain ⟨k, hk, rfl, HW⟩ := hrel
        have HWV := hide (HWV.out.trans (HW.out.mono HWV.out.size))
        have HBr := hide (HB.out.trans (HWV.out.mono HB.out.size))
        by_cases hlt : k < c.no
        · have hkn : (k : Int) < (c.no : Int) := by omega
          have x6 : wr.cell? ⟨w.heap.size, 6, none⟩ = some (.slice oa1 c.no cb1) := (row_on RX.out HWV.out).cell (i := 6) (by decide)
          obtain ⟨b, off, ai, ci, hoa, hbl, hoc, hse⟩ := (HS.out.below HBr.out).ob k hlt
          obtain ⟨b', off', aj, cj, hoa', hbl', hoc', hse'⟩ := (HS'.out.below HBr.out).ob k hlt
          simp only at hoa hoa'
          subst hoa hoa'
          have hns := HC.out.ns k hlt
          go_upto_region 11 with (fail)
          refine LtH.region2 (ks := [(0, 77), (1, 78), (2, 79), (3, 80), (4, 81), (5, 82), (6, 83), (7, 84), (8, 85), (9, 86)]) (vals := fun iv => match iv with | 0 => .pointer (some ⟨w.heap.size, 6, none⟩) | 1 => .slice (some ⟨b, off, none⟩) c.no cb1 | 2 => .int .i64 (k : Int) | 3 => .pointer (some ⟨b, off + k * 9, none⟩) | 4 => .agg (Ob.cells (c.ob k) (.slice ai (c.ob k).ns ci)).toArray | 5 => .pointer (some ⟨W0.heap.size, 6, none⟩) | 6 => .slice (some ⟨b', off', none⟩) c.no cb2 | 7 => .int .i64 (k : Int) | 8 => .pointer (some ⟨b', off' + k * 9, none⟩) | 9 => .agg (Ob.cells (c.ob k) (.slice aj (c.ob k).ns cj)).toArray | _ => undef) (xs := [87, 88]) (WI := LtC.WI [10, 11] 10 9 (OS wr)) (by kernel_rfl) ?Agd ?Abk rfl ?Add ?Axx ?Alc ?Ast ?Ado ?Afi
          case Agd =>
            intro iq oq ho
            have hiq : iq < 12 := by have := (Array.getElem?_eq_some_iff.1 ho).1; simpa using this
            match iq, hiq with
            | 0, _ | 1, _ | 2, _ | 3, _ | 4, _ | 5, _ | 6, _ | 7, _ | 8, _ | 9, _ | 10, _ | 11, _ => injection ho with ho; subst ho; rfl
          case Abk =>
            intro iq oq ho
            have hiq : iq < 12 := by have := (Array.getElem?_eq_some_iff.1 ho).1; simpa using this
            match iq, hiq with
            | 0, _ | 1, _ | 2, _ | 3, _ | 4, _ | 5, _ | 6, _ | 7, _ | 8, _ | 9, _ | 10, _ | 11, _ => injection ho with ho; subst ho; simp [Region.binds]
          case Add =>
            intro kq hk
            have hk2 : kq < 122 := by
              simp [Lt.D] at hk
              omega
            exact hk2
          case Axx =>
            intro kq hk
            have hk2 : kq < 122 := by
              simp at hk
              omega
            exact hk2
          case Alc =>
            rintro L s1 s2 w1 hx ⟨⟨n1, h1, h2, h3⟩, h4⟩
            exact ⟨⟨n1, h1, h2, OS.local (hx 87 rfl) (hx 88 rfl) h3⟩, h4⟩
          case Ast => exact LtC.WI.start ⟨rfl, rfl, rfl, Nat.le_refl _, fun _ _ => rfl⟩
          case Ado =>
            intro iq oq ho
            have hiq : iq < 12 := by have := (Array.getElem?_eq_some_iff.1 ho).1; simpa using this
            match iq, hiq with
            | 0, _ => injection ho with ho; subst ho; exact LtC.read rfl rfl rfl (fun L a w' hI hL hq => Lt.ex_field rfl (hI.fix 2 (Lt.notD rfl) rfl) (by simp [go_sem]))
            | 1, _ => injection ho with ho; subst ho; exact LtC.read rfl rfl rfl (fun L a w' hI hL hq => Lt.ex_load rfl (hI.pure 0 _ _ rfl (hq ⟨0, .data⟩ (by simp) rfl)) (by simp [go_sem]) (by obtain ⟨n1, hn1⟩ := hI.world.any; exact (row_on RX.out (HWV.out.trans ((OS.low hn1).mono HWV.out.size))).cell (i := 6) (by decide)))
            | 2, _ => injection ho with ho; subst ho; exact LtC.read rfl rfl rfl (fun L a w' hI hL hq => Lt.ex_move rfl (hI.fix 6 (Lt.notD rfl) rfl))
            | 3, _ => injection ho with ho; subst ho; exact LtC.read rfl rfl rfl (fun L a w' hI hL hq => ex_idx9 rfl (hI.pure 1 _ _ rfl (hq ⟨1, .data⟩ (by simp) rfl)) (hI.pure 2 _ _ rfl (hq ⟨2, .data⟩ (by simp) rfl)) hkn hno)
            | 4, _ => injection ho with ho; subst ho; exact LtC.read rfl rfl rfl (fun L a w' hI hL hq => Lt.ex_load_row rfl (hI.pure 3 _ _ rfl (hq ⟨3, .data⟩ (by simp) rfl)) (by obtain ⟨n1, hn1⟩ := hI.world.any; exact rng9 hbl (OS.low hn1) hoc) (by kernel_rfl) (by kernel_rfl))
            | 5, _ => injection ho with ho; subst ho; exact LtC.read rfl rfl rfl (fun L a w' hI hL hq => Lt.ex_field rfl (hI.fix 3 (Lt.notD rfl) rfl) (by simp [go_sem]))
            | 6, _ => injection ho with ho; subst ho; exact LtC.read rfl rfl rfl (fun L a w' hI hL hq => Lt.ex_load rfl (hI.pure 5 _ _ rfl (hq ⟨5, .data⟩ (by simp) rfl)) (by simp [go_sem]) (by obtain ⟨n1, hn1⟩ := hI.world.any; exact (row_on RY.out (HWV.out.trans ((OS.low hn1).mono HWV.out.size))).cell (i := 6) (by decide)))
            | 7, _ => injection ho with ho; subst ho; exact LtC.read rfl rfl rfl (fun L a w' hI hL hq => Lt.ex_move rfl (hI.fix 6 (Lt.notD rfl) rfl))
            | 8, _ => injection ho with ho; subst ho; exact LtC.read rfl rfl rfl (fun L a w' hI hL hq => ex_idx9 rfl (hI.pure 6 _ _ rfl (hq ⟨6, .data⟩ (by simp) rfl)) (hI.pure 7 _ _ rfl (hq ⟨7, .data⟩ (by simp) rfl)) hkn hno)
            | 9, _ => injection ho with ho; subst ho; exact LtC.read rfl rfl rfl (fun L a w' hI hL hq => Lt.ex_load_row rfl (hI.pure 8 _ _ rfl (hq ⟨8, .data⟩ (by simp) rfl)) (by obtain ⟨n1, hn1⟩ := hI.world.any; exact rng9 hbl' (OS.low hn1) hoc') (by kernel_rfl) (by kernel_rfl))
            | 10, _ => injection ho with ho; subst ho; exact LtC.call (m := 0) (args := fun _ => #[.agg (Ob.cells (c.ob k) (.slice ai (c.ob k).ns ci)).toArray, .agg (Ob.cells (c.ob k) (.slice aj (c.ob k).ns cj)).toArray]) (by decide) rfl rfl rfl rfl (fun L hq e => hq ⟨9, .data⟩ (by simp) rfl) (fun L hq m1 j1 e1 _ => absurd e1 (by omega)) (fun L a w' hI hq hS => Lt.call2 rfl (hI.pure 4 _ _ rfl (hq ⟨4, .data⟩ (by simp) rfl)) (hI.pure 9 _ _ rfl (hq ⟨9, .data⟩ (by simp) rfl)) rfl (by simp [go_sem])) (fun s1 w1 hS => (sameObj (sees_on hse hS) (sees_on hse' hS) hns).mono (by rintro e w2 ⟨rfl, hb2⟩; exact ⟨_, rfl, Below.trans hS (hb2.mono hS.size), by simp⟩))
            | 11, _ => injection ho with ho; subst ho; exact LtC.link (m := 1) (by decide) rfl rfl rfl rfl (fun L _ e => absurd e (by decide)) (fun L hq m1 j1 e1 hj => by (cases (show m1 = 0 from (by omega))); cases hj; exact hq ⟨10, .data⟩ (by simp) rfl) (fun L a w' Kq hI hq hS hk => Lt.wp_value (ex_not rfl hS.2) (hk _ _ ⟨hS.1, by simp⟩))
          case Afi =>
            intro L a' w' hI hall
            obtain ⟨hb9, e88⟩ := hI.world.done (fun i hi => hall i (by simp at hi ⊢; omega))
            have hfr := LtH.frame hI [77, 78, 79, 80, 81, 82, 83, 84, 85, 86, 87, 88] rfl rfl (fun x hx => by simp at hx ⊢; omega)
            obtain ⟨t77, e77⟩ : ∃ t, a'.eval (.tmp 77) = t := ⟨_, rfl⟩
            obtain ⟨t78, e78⟩ : ∃ t, a'.eval (.tmp 78) = t := ⟨_, rfl⟩
            obtain ⟨t79, e79⟩ : ∃ t, a'.eval (.tmp 79) = t := ⟨_, rfl⟩
            obtain ⟨t80, e80⟩ : ∃ t, a'.eval (.tmp 80) = t := ⟨_, rfl⟩
            obtain ⟨t81, e81⟩ : ∃ t, a'.eval (.tmp 81) = t := ⟨_, rfl⟩
            obtain ⟨t82, e82⟩ : ∃ t, a'.eval (.tmp 82) = t := ⟨_, rfl⟩
            obtain ⟨t83, e83⟩ : ∃ t, a'.eval (.tmp 83) = t := ⟨_, rfl⟩
            obtain ⟨t84, e84⟩ : ∃ t, a'.eval (.tmp 84) = t := ⟨_, rfl⟩
            obtain ⟨t85, e85⟩ : ∃ t, a'.eval (.tmp 85) = t := ⟨_, rfl⟩
            obtain ⟨t86, e86⟩ : ∃ t, a'.eval (.tmp 86) = t := ⟨_, rfl⟩
            obtain ⟨t87, e87⟩ : ∃ t, a'.eval (.tmp 87) = t := ⟨_, rfl⟩
            simp only at e88
            rw [hfr]
            simp only [LtH.lay, List.foldl, e77, e78, e79, e80, e81, e82, e83, e84, e85, e86, e87, e88]
            have HB9 := hide (HW.out.trans (hb9.mono HW.out.size))
            clear hfr hI hall e77 e78 e79 e80 e81 e82 e83 e84 e85 e86 e87 e88 hb9 hoc hoc' hse hse' hns x6 hW0 hW1 x4 y4 arr HC hnr l0 hna hbl hbl' HB
            simp only [Act.put, List.setIfInBounds_toArray, List.set_cons_succ, List.set_cons_zero]
            go_wp2_with fail
            go_roundw
            case rel => exact ⟨k + 1, by omega, by go_num, HB9.out⟩
            case measure => simp [intOf]; omega
        · have hkn : ¬ (k : Int) < (c.no : Int) := by omega
          have SA := HS.out.below HBr.out
          have SB := HS'.out.below HBr.out
          have x0 : wr.cell? ⟨w.heap.size, 0, none⟩ = some (.int .i64 c.ph) := (row_on RX.out HWV.out).cell (i := 0) (by decide)
          have x1 : wr.cell? ⟨w.heap.size, 1, none⟩ = some (.int .i64 c.co) := (row_on RX.out HWV.out).cell (i := 1) (by decide)
          have x2 : wr.cell? ⟨w.heap.size, 2, none⟩ = some (.int .u64 c.ro) := (row_on RX.out HWV.out).cell (i := 2) (by decide)
          have x3 : wr.cell? ⟨w.heap.size, 3, none⟩ = some (.slice aa1 c.na ca1) := (row_on RX.out HWV.out).cell (i := 3) (by decide)
          have x4 : wr.cell? ⟨w.heap.size, 4, none⟩ = some (.slice ra1 c.nr cr1) := (row_on RX.out HWV.out).cell (i := 4) (by decide)
          have x5 : wr.cell? ⟨w.heap.size, 5, none⟩ = some (.slice wa1 c.nw cw1) := (row_on RX.out HWV.out).cell (i := 5) (by decide)
          have x6 : wr.cell? ⟨w.heap.size, 6, none⟩ = some (.slice oa1 c.no cb1) := (row_on RX.out HWV.out).cell (i := 6) (by decide)
          have x7 : wr.cell? ⟨w.heap.size, 7, none⟩ = some (.slice fa1 c.fr.length cf1) := (row_on RX.out HWV.out).cell (i := 7) (by decide)
          have x8 : wr.cell? ⟨w.heap.size, 8, none⟩ = some (.slice ga1 c.gr.length cg1) := (row_on RX.out HWV.out).cell (i := 8) (by decide)
          have x9 : wr.cell? ⟨w.heap.size, 9, none⟩ = some (.slice qa1 c.qu.length cq1) := (row_on RX.out HWV.out).cell (i := 9) (by decide)
          have x10 : wr.cell? ⟨w.heap.size, 10, none⟩ = some (.int .u64 (c.cn 0)) := (row_on RX.out HWV.out).cell (i := 10) (by decide)
          have x11 : wr.cell? ⟨w.heap.size, 11, none⟩ = some (.int .u64 (c.cn 1)) := (row_on RX.out HWV.out).cell (i := 11) (by decide)
          have x12 : wr.cell? ⟨w.heap.size, 12, none⟩ = some (.int .u64 (c.cn 2)) := (row_on RX.out HWV.out).cell (i := 12) (by decide)
          have x13 : wr.cell? ⟨w.heap.size, 13, none⟩ = some (.int .u64 (c.cn 3)) := (row_on RX.out HWV.out).cell (i := 13) (by decide)
          have y0 : wr.cell? ⟨W0.heap.size, 0, none⟩ = some (.int .i64 c.ph) := (row_on RY.out HWV.out).cell (i := 0) (by decide)
          have y1 : wr.cell? ⟨W0.heap.size, 1, none⟩ = some (.int .i64 c.co) := (row_on RY.out HWV.out).cell (i := 1) (by decide)
          have y2 : wr.cell? ⟨W0.heap.size, 2, none⟩ = some (.int .u64 c.ro) := (row_on RY.out HWV.out).cell (i := 2) (by decide)
          have y3 : wr.cell? ⟨W0.heap.size, 3, none⟩ = some (.slice aa2 c.na ca2) := (row_on RY.out HWV.out).cell (i := 3) (by decide)
          have y4 : wr.cell? ⟨W0.heap.size, 4, none⟩ = some (.slice ra2 c.nr cr2) := (row_on RY.out HWV.out).cell (i := 4) (by decide)
          have y5 : wr.cell? ⟨W0.heap.size, 5, none⟩ = some (.slice wa2 c.nw cw2) := (row_on RY.out HWV.out).cell (i := 5) (by decide)
          have y6 : wr.cell? ⟨W0.heap.size, 6, none⟩ = some (.slice oa2 c.no cb2) := (row_on RY.out HWV.out).cell (i := 6) (by decide)
          have y7 : wr.cell? ⟨W0.heap.size, 7, none⟩ = some (.slice fa2 c.fr.length cf2) := (row_on RY.out HWV.out).cell (i := 7) (by decide)
          have y8 : wr.cell? ⟨W0.heap.size, 8, none⟩ = some (.slice ga2 c.gr.length cg2) := (row_on RY.out HWV.out).cell (i := 8) (by decide)
          have y9 : wr.cell? ⟨W0.heap.size, 9, none⟩ = some (.slice qa2 c.qu.length cq2) := (row_on RY.out HWV.out).cell (i := 9) (by decide)
          have y10 : wr.cell? ⟨W0.heap.size, 10, none⟩ = some (.int .u64 (c.cn 0)) := (row_on RY.out HWV.out).cell (i := 10) (by decide)
          have y11 : wr.cell? ⟨W0.heap.size, 11, none⟩ = some (.int .u64 (c.cn 1)) := (row_on RY.out HWV.out).cell (i := 11) (by decide)
          have y12 : wr.cell? ⟨W0.heap.size, 12, none⟩ = some (.int .u64 (c.cn 2)) := (row_on RY.out HWV.out).cell (i := 12) (by decide)
          have y13 : wr.cell? ⟨W0.heap.size, 13, none⟩ = some (.int .u64 (c.cn 3)) := (row_on RY.out HWV.out).cell (i := 13) (by decide)
          have hnw := HC.out.nw
          have hfl := HC.out.fr
          have hgl := HC.out.gr
          have hql := HC.out.qu
          have C1 := hide (same13 (cap := ca1) (cap' := ca2) SA.ac SB.ac (fun _ _ => rfl) (by omega))
          have C2 := hide (fun m => same13 (w := wr.drewN m) (cap := cw1) (cap' := cw2) SA.wk SB.wk (fun _ _ => rfl) (by omega))
          have C3 := hide (fun m => sameI (w := wr.drewN m) (cap := cf1) (cap' := cf2) SA.fr SB.fr rfl (by omega))
          have C4 := hide (fun m => sameI (w := wr.drewN m) (cap := cg1) (cap' := cg2) SA.gr SB.gr rfl (by omega))
          have C5 := hide (fun m => sameI (w := wr.drewN m) (cap := cq1) (cap' := cq2) SA.qu SB.qu rfl (by omega))
          clear SA SB
          go_wp2_with (first
            | (have gg := H4.out; clear gg; go_at_call 44; refine (C5.out _).mono ?_; rintro e v5 ⟨rfl, m5, rfl⟩)
            | (have gg := H3.out; clear gg; go_at_call 44; refine (C4.out _).mono ?_; rintro e v4 ⟨rfl, m4, rfl⟩; have H4 := hide True.intro)
            | (have gg := H2.out; clear gg; go_at_call 44; refine (C3.out _).mono ?_; rintro e v3 ⟨rfl, m3, rfl⟩; have H3 := hide True.intro)
            | (have gg := H1.out; clear gg; go_at_call 42; refine (C2.out _).mono ?_; rintro e v2 ⟨rfl, m2, rfl⟩; have H2 := hide True.intro)
            | (go_at_call 42; refine C1.out.mono ?_; rintro e v1 ⟨rfl, m1, rfl⟩; have H1 := hide True.intro))
          go_ret
          exact ⟨rfl, below_drewN HBr.out _⟩
end Vw
end Go.Proofs.YtecjegjnnahddaaGreat
