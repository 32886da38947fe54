/-
  Lemmas: VwEv.
-/
import Derived.Test.YtecjegjnnahddaaGreatTp14
import Derived.Test.YtecjegjnnahddaaGreatTp08
/-
  View: the package's comparison of views
-/
namespace Go.Proofs.YtecjegjnnahddaaGreat
open Go.RowKit
set_option linter.unusedVariables false
set_option linter.unusedSimpArgs false
set_option linter.unnecessarySimpa false
set_option maxRecDepth 20000
namespace Vw
open Shape
/-- Two views show the same. -/
structure Cq (c d : Cv) : Prop where
  ph : c.ph = d.ph
  co : c.co = d.co
  ro : c.ro = d.ro
  cn : c.cn 0 = d.cn 0 ∧ c.cn 1 = d.cn 1 ∧ c.cn 2 = d.cn 2 ∧ c.cn 3 = d.cn 3
  ac : c.na = d.na ∧ ∀ i, i < c.na → c.ac i = d.ac i
  rt : c.nr = d.nr ∧ ∀ j, j < c.nr → c.rn j = d.rn j ∧ ∀ i, i < c.rn j → c.rt j i = d.rt j i
  wk : c.nw = d.nw ∧ ∀ i, i < c.nw → c.wk i = d.wk i
  ob : c.no = d.no ∧ ∀ j, j < c.no → ObE (c.ob j) (d.ob j)
  fr : c.fr = d.fr
  gr : c.gr = d.gr
  qu : c.qu = d.qu
theorem eqlU (d : Nat) (x y : Int) (w : World) : (Op.equalIn (d + 1) 24 (.int .u64 x) (.int .u64 y)).run Tryz.prog w = .ok (x == y) w := by
  rw [run_equalIn_int w d 24 .u64 .u64 x y Tryz.underlying24]
theorem arr_eql (d : Nat) (x0 x1 x2 x3 y0 y1 y2 y3 : Int) (w : World) : (Op.equalIn (d + 2) 29 (.agg #[.int .u64 x0, .int .u64 x1, .int .u64 x2, .int .u64 x3]) (.agg #[.int .u64 y0, .int .u64 y1, .int .u64 y2, .int .u64 y3])).run Tryz.prog w = .ok (x0 == y0 && (x1 == y1 && (x2 == y2 && x3 == y3))) w := by
  have hs : ∀ w, (sizeOf 24).run Tryz.prog w = .ok 1 w := fun w => by kernel_rfl
  have ha : ∀ w, (isAgg 24).run Tryz.prog w = .ok false w := fun w => by kernel_rfl
  have hp : ∀ (xs : Array Value) (i : Nat) (v : Value) (w : World), xs[i]? = some v → (part 24 xs i).run Tryz.prog w = .ok v w := fun xs i v w h => by
    simp [part, ha, h]
  rw [Op.equalIn]
  simp only [Sem.run_bind, run_underlying uA, Result.andThen_ok, hs]
  rw [Std.Legacy.Range.forIn_eq_forIn_range']
  cases h0 : (x0 == y0) <;> cases h1 : (x1 == y1) <;> cases h2 : (x2 == y2) <;> cases h3 : (x3 == y3) <;> simp [Std.Legacy.Range.size, List.range', hp, eqlU, h0, h1, h2, h3]
theorem arr_eqb (x0 x1 x2 x3 y0 y1 y2 y3 : Int) (w : World) (b : Bool) (h : (x0 == y0 && (x1 == y1 && (x2 == y2 && x3 == y3))) = b) : (binOp .eql 29 (.agg #[.int .u64 x0, .int .u64 x1, .int .u64 x2, .int .u64 x3]) (.agg #[.int .u64 y0, .int .u64 y1, .int .u64 y2, .int .u64 y3])).run Tryz.prog w = .ok (.bool b) w := by
  have h' := arr_eql 9998 x0 x1 x2 x3 y0 y1 y2 y3 w
  simp [binOp, Op.equal]
  rw [show Op.maxDepth = 9998 + 2 from rfl, h', h]
  rfl
theorem on_drew {w w' : World} {e : Ending} {p : Prop} (h : Tells e p ∧ ∃ m, w' = w.drewN m) : Tells e p ∧ Below w.heap.size w w' := by
  obtain ⟨h1, m, rfl⟩ := h
  exact ⟨h1, below_drewN (Below.refl _ _) m⟩

set_option maxHeartbeats 32000000 in
theorem sameView_ok {w : World} {c d : Cv} {a b : Av} (h : Shows w c a) (h' : Shows w d b) (hc : Len c) (hd : Len d) :
    Calls Tryz.prog 23 #[vl c a, vl d b] w fun e w' => Tells e (Cq c d) ∧ Below w.heap.size w w' := by
  obtain ⟨W0, hW0, B0, R0⟩ := vbox w c a
  obtain ⟨W1, hW1, B1, R1⟩ := vbox W0 d b
  have RX := hide (row_on R0 B1)
  have RY := hide R1
  have HB := hide (B0.trans (B1.mono B0.size))
  have HS := hide (h.below HB.out)
  have HT := hide (h'.below HB.out)
  have HC := hide hc
  have HD := hide hd
  have l0 : w.heap.size < W0.heap.size := R0.lt
  have E0 := hide (fun (V : World) (hb : Below W1.heap.size W1 V) => (equalU (cap := a.ca) (cap' := b.ca) (HS.out.below hb).ac (HT.out.below hb).ac HC.out.na HD.out.na).mono (fun e w' => on_drew))
  have E1 := hide (fun (V : World) (hb : Below W1.heap.size W1 V) => equalRoots (HS.out.below hb) (HT.out.below hb) HC.out HD.out)
  have E2 := hide (fun (V : World) (hb : Below W1.heap.size W1 V) => (equalU (cap := a.cw) (cap' := b.cw) (HS.out.below hb).wk (HT.out.below hb).wk HC.out.nw HD.out.nw).mono (fun e w' => on_drew))
  have E3 := hide (fun (V : World) (hb : Below W1.heap.size W1 V) => equalObjects (HS.out.below hb) (HT.out.below hb) HC.out HD.out)
  have E4 := hide (fun (V : World) (hb : Below W1.heap.size W1 V) => (equalI (cap := a.cf) (cap' := b.cf) (HS.out.below hb).fr (HT.out.below hb).fr HC.out.fr HD.out.fr).mono (fun e w' => on_drew))
  have E5 := hide (fun (V : World) (hb : Below W1.heap.size W1 V) => (equalI (cap := a.cg) (cap' := b.cg) (HS.out.below hb).gr (HT.out.below hb).gr HC.out.gr HD.out.gr).mono (fun e w' => on_drew))
  have E6 := hide (fun (V : World) (hb : Below W1.heap.size W1 V) => (equalI (cap := a.cq) (cap' := b.cq) (HS.out.below hb).qu (HT.out.below hb).qu HC.out.qu HD.out.qu).mono (fun e w' => on_drew))
  have x0 := RX.out.cell (i := 0) (by decide)
  have y0 := RY.out.cell (i := 0) (by decide)
  have x1 := RX.out.cell (i := 1) (by decide)
  have y1 := RY.out.cell (i := 1) (by decide)
  have x2 := RX.out.cell (i := 2) (by decide)
  have y2 := RY.out.cell (i := 2) (by decide)
  have x3 := RX.out.cell (i := 3) (by decide)
  have y3 := RY.out.cell (i := 3) (by decide)
  have x4 := RX.out.cell (i := 4) (by decide)
  have y4 := RY.out.cell (i := 4) (by decide)
  have x5 := RX.out.cell (i := 5) (by decide)
  have y5 := RY.out.cell (i := 5) (by decide)
  have x6 := RX.out.cell (i := 6) (by decide)
  have y6 := RY.out.cell (i := 6) (by decide)
  have x7 := RX.out.cell (i := 7) (by decide)
  have y7 := RY.out.cell (i := 7) (by decide)
  have x8 := RX.out.cell (i := 8) (by decide)
  have y8 := RY.out.cell (i := 8) (by decide)
  have x9 := RX.out.cell (i := 9) (by decide)
  have y9 := RY.out.cell (i := 9) (by decide)
  have x10 := RX.out.cell (i := 10) (by decide)
  have y10 := RY.out.cell (i := 10) (by decide)
  have x11 := RX.out.cell (i := 11) (by decide)
  have y11 := RY.out.cell (i := 11) (by decide)
  have x12 := RX.out.cell (i := 12) (by decide)
  have y12 := RY.out.cell (i := 12) (by decide)
  have x13 := RX.out.cell (i := 13) (by decide)
  have y13 := RY.out.cell (i := 13) (by decide)
  simp only [lrow] at x0 y0 x1 y1 x2 y2 x3 y3 x4 y4 x5 y5 x6 y6 x7 y7 x8 y8 x9 y9 x10 y10 x11 y11 x12 y12 x13 y13
  have HB00 := hide (Below.refl W1.heap.size W1)
  clear h h' hc hd B0 B1 R0 R1
  simp only [vl]
  by_cases q_ph : c.ph = d.ph
  rotate_left
  · have HH := hide q_ph
    have hb : (c.ph == d.ph) = false := by simp [q_ph]
    clear q_ph
    go_enter Tryz.func23, Tryz.ntmps23
    go_wp2_with fail
    go_ret
    exact ⟨Tells.no (fun h => HH.out h.ph), HB.out⟩
  have H_ph := hide q_ph
  have b_ph : (c.ph == d.ph) = true := by simp [q_ph]
  clear q_ph
  by_cases q_co : c.co = d.co
  rotate_left
  · have HH := hide q_co
    have hb : (c.co == d.co) = false := by simp [q_co]
    clear q_co
    go_enter Tryz.func23, Tryz.ntmps23
    go_wp2_with fail
    go_ret
    exact ⟨Tells.no (fun h => HH.out h.co), HB.out⟩
  have H_co := hide q_co
  have b_co : (c.co == d.co) = true := by simp [q_co]
  clear q_co
  by_cases q_ro : c.ro = d.ro
  rotate_left
  · have HH := hide q_ro
    have hb : (c.ro == d.ro) = false := by simp [q_ro]
    clear q_ro
    go_enter Tryz.func23, Tryz.ntmps23
    go_wp2_with fail
    go_ret
    exact ⟨Tells.no (fun h => HH.out h.ro), HB.out⟩
  have H_ro := hide q_ro
  have b_ro : (c.ro == d.ro) = true := by simp [q_ro]
  clear q_ro
  by_cases q_cn : (c.cn 0 = d.cn 0 ∧ c.cn 1 = d.cn 1 ∧ c.cn 2 = d.cn 2 ∧ c.cn 3 = d.cn 3)
  rotate_left
  · have HH := hide q_cn
    have hb := fun w => arr_eqb (c.cn 0) (c.cn 1) (c.cn 2) (c.cn 3) (d.cn 0) (d.cn 1) (d.cn 2) (d.cn 3) w false (by simp only [Bool.and_eq_false_iff, beq_eq_false_iff_ne]; (by_cases z0 : c.cn 0 = d.cn 0) <;> (by_cases z1 : c.cn 1 = d.cn 1) <;> (by_cases z2 : c.cn 2 = d.cn 2) <;> simp_all)
    clear q_cn
    go_enter Tryz.func23, Tryz.ntmps23
    go_wp2_with fail
    go_ret
    exact ⟨Tells.no (fun h => HH.out h.cn), HB.out⟩
  have H_cn := hide q_cn
  have b_cn := fun w => arr_eqb (c.cn 0) (c.cn 1) (c.cn 2) (c.cn 3) (d.cn 0) (d.cn 1) (d.cn 2) (d.cn 3) w true (by simp [q_cn])
  clear q_cn
  by_cases q_ac : (c.na = d.na ∧ ∀ i, i < c.na → c.ac i = d.ac i)
  rotate_left
  · have HH := hide q_ac
    clear q_ac
    go_enter Tryz.func23, Tryz.ntmps23
    go_wp2_with (first
        | (go_at_call 54; with_reducible refine (E0.out _ HB00.out).mono ?_; rintro e v1 ⟨ht, hb⟩; obtain rfl := ht.isnt HH.out; have HB01 := hide (HB00.out.trans (hb.mono HB00.out.size)); clear ht hb; have x4 := (row_on RX.out HB01.out).cell (i := 4) (by decide); have y4 := (row_on RY.out HB01.out).cell (i := 4) (by decide); simp only [lrow] at x4 y4))
    go_ret
    exact ⟨Tells.no (fun h => HH.out h.ac), HB.out.trans (HB01.out.mono HB.out.size)⟩
  have H_ac := hide q_ac
  clear q_ac
  by_cases q_rt : (c.nr = d.nr ∧ ∀ j, j < c.nr → c.rn j = d.rn j ∧ ∀ i, i < c.rn j → c.rt j i = d.rt j i)
  rotate_left
  · have HH := hide q_rt
    clear q_rt
    go_enter Tryz.func23, Tryz.ntmps23
    go_wp2_with (first
        | (go_at_call 54; with_reducible refine (E0.out _ HB00.out).mono ?_; rintro e v1 ⟨ht, hb⟩; obtain rfl := ht.is H_ac.out; have HB01 := hide (HB00.out.trans (hb.mono HB00.out.size)); clear ht hb; have x4 := (row_on RX.out HB01.out).cell (i := 4) (by decide); have y4 := (row_on RY.out HB01.out).cell (i := 4) (by decide); simp only [lrow] at x4 y4)
        | (go_at_call 55; with_reducible refine (E1.out _ HB01.out).mono ?_; rintro e v2 ⟨ht, hb⟩; obtain rfl := ht.isnt HH.out; have HB02 := hide (HB01.out.trans (hb.mono HB01.out.size)); clear ht hb; have x5 := (row_on RX.out HB02.out).cell (i := 5) (by decide); have y5 := (row_on RY.out HB02.out).cell (i := 5) (by decide); simp only [lrow] at x5 y5))
    go_ret
    exact ⟨Tells.no (fun h => HH.out h.rt), HB.out.trans (HB02.out.mono HB.out.size)⟩
  have H_rt := hide q_rt
  clear q_rt
  by_cases q_wk : (c.nw = d.nw ∧ ∀ i, i < c.nw → c.wk i = d.wk i)
  rotate_left
  · have HH := hide q_wk
    clear q_wk
    go_enter Tryz.func23, Tryz.ntmps23
    go_wp2_with (first
        | (go_at_call 54; with_reducible refine (E0.out _ HB00.out).mono ?_; rintro e v1 ⟨ht, hb⟩; obtain rfl := ht.is H_ac.out; have HB01 := hide (HB00.out.trans (hb.mono HB00.out.size)); clear ht hb; have x4 := (row_on RX.out HB01.out).cell (i := 4) (by decide); have y4 := (row_on RY.out HB01.out).cell (i := 4) (by decide); simp only [lrow] at x4 y4)
        | (go_at_call 55; with_reducible refine (E1.out _ HB01.out).mono ?_; rintro e v2 ⟨ht, hb⟩; obtain rfl := ht.is H_rt.out; have HB02 := hide (HB01.out.trans (hb.mono HB01.out.size)); clear ht hb; have x5 := (row_on RX.out HB02.out).cell (i := 5) (by decide); have y5 := (row_on RY.out HB02.out).cell (i := 5) (by decide); simp only [lrow] at x5 y5)
        | (go_at_call 54; with_reducible refine (E2.out _ HB02.out).mono ?_; rintro e v3 ⟨ht, hb⟩; obtain rfl := ht.isnt HH.out; have HB03 := hide (HB02.out.trans (hb.mono HB02.out.size)); clear ht hb; have x6 := (row_on RX.out HB03.out).cell (i := 6) (by decide); have y6 := (row_on RY.out HB03.out).cell (i := 6) (by decide); simp only [lrow] at x6 y6))
    go_ret
    exact ⟨Tells.no (fun h => HH.out h.wk), HB.out.trans (HB03.out.mono HB.out.size)⟩
  have H_wk := hide q_wk
  clear q_wk
  by_cases q_ob : (c.no = d.no ∧ ∀ j, j < c.no → ObE (c.ob j) (d.ob j))
  rotate_left
  · have HH := hide q_ob
    clear q_ob
    go_enter Tryz.func23, Tryz.ntmps23
    go_wp2_with (first
        | (go_at_call 54; with_reducible refine (E0.out _ HB00.out).mono ?_; rintro e v1 ⟨ht, hb⟩; obtain rfl := ht.is H_ac.out; have HB01 := hide (HB00.out.trans (hb.mono HB00.out.size)); clear ht hb; have x4 := (row_on RX.out HB01.out).cell (i := 4) (by decide); have y4 := (row_on RY.out HB01.out).cell (i := 4) (by decide); simp only [lrow] at x4 y4)
        | (go_at_call 55; with_reducible refine (E1.out _ HB01.out).mono ?_; rintro e v2 ⟨ht, hb⟩; obtain rfl := ht.is H_rt.out; have HB02 := hide (HB01.out.trans (hb.mono HB01.out.size)); clear ht hb; have x5 := (row_on RX.out HB02.out).cell (i := 5) (by decide); have y5 := (row_on RY.out HB02.out).cell (i := 5) (by decide); simp only [lrow] at x5 y5)
        | (go_at_call 54; with_reducible refine (E2.out _ HB02.out).mono ?_; rintro e v3 ⟨ht, hb⟩; obtain rfl := ht.is H_wk.out; have HB03 := hide (HB02.out.trans (hb.mono HB02.out.size)); clear ht hb; have x6 := (row_on RX.out HB03.out).cell (i := 6) (by decide); have y6 := (row_on RY.out HB03.out).cell (i := 6) (by decide); simp only [lrow] at x6 y6)
        | (go_at_call 56; with_reducible refine (E3.out _ HB03.out).mono ?_; rintro e v4 ⟨ht, hb⟩; obtain rfl := ht.isnt HH.out; have HB04 := hide (HB03.out.trans (hb.mono HB03.out.size)); clear ht hb; have x7 := (row_on RX.out HB04.out).cell (i := 7) (by decide); have y7 := (row_on RY.out HB04.out).cell (i := 7) (by decide); simp only [lrow] at x7 y7))
    go_ret
    exact ⟨Tells.no (fun h => HH.out h.ob), HB.out.trans (HB04.out.mono HB.out.size)⟩
  have H_ob := hide q_ob
  clear q_ob
  by_cases q_fr : (c.fr = d.fr)
  rotate_left
  · have HH := hide q_fr
    clear q_fr
    go_enter Tryz.func23, Tryz.ntmps23
    go_wp2_with (first
        | (go_at_call 54; with_reducible refine (E0.out _ HB00.out).mono ?_; rintro e v1 ⟨ht, hb⟩; obtain rfl := ht.is H_ac.out; have HB01 := hide (HB00.out.trans (hb.mono HB00.out.size)); clear ht hb; have x4 := (row_on RX.out HB01.out).cell (i := 4) (by decide); have y4 := (row_on RY.out HB01.out).cell (i := 4) (by decide); simp only [lrow] at x4 y4)
        | (go_at_call 55; with_reducible refine (E1.out _ HB01.out).mono ?_; rintro e v2 ⟨ht, hb⟩; obtain rfl := ht.is H_rt.out; have HB02 := hide (HB01.out.trans (hb.mono HB01.out.size)); clear ht hb; have x5 := (row_on RX.out HB02.out).cell (i := 5) (by decide); have y5 := (row_on RY.out HB02.out).cell (i := 5) (by decide); simp only [lrow] at x5 y5)
        | (go_at_call 54; with_reducible refine (E2.out _ HB02.out).mono ?_; rintro e v3 ⟨ht, hb⟩; obtain rfl := ht.is H_wk.out; have HB03 := hide (HB02.out.trans (hb.mono HB02.out.size)); clear ht hb; have x6 := (row_on RX.out HB03.out).cell (i := 6) (by decide); have y6 := (row_on RY.out HB03.out).cell (i := 6) (by decide); simp only [lrow] at x6 y6)
        | (go_at_call 56; with_reducible refine (E3.out _ HB03.out).mono ?_; rintro e v4 ⟨ht, hb⟩; obtain rfl := ht.is H_ob.out; have HB04 := hide (HB03.out.trans (hb.mono HB03.out.size)); clear ht hb; have x7 := (row_on RX.out HB04.out).cell (i := 7) (by decide); have y7 := (row_on RY.out HB04.out).cell (i := 7) (by decide); simp only [lrow] at x7 y7)
        | (go_at_call 58; with_reducible refine (E4.out _ HB04.out).mono ?_; rintro e v5 ⟨ht, hb⟩; obtain rfl := ht.isnt HH.out; have HB05 := hide (HB04.out.trans (hb.mono HB04.out.size)); clear ht hb; have x8 := (row_on RX.out HB05.out).cell (i := 8) (by decide); have y8 := (row_on RY.out HB05.out).cell (i := 8) (by decide); simp only [lrow] at x8 y8))
    go_ret
    exact ⟨Tells.no (fun h => HH.out h.fr), HB.out.trans (HB05.out.mono HB.out.size)⟩
  have H_fr := hide q_fr
  clear q_fr
  by_cases q_gr : (c.gr = d.gr)
  rotate_left
  · have HH := hide q_gr
    clear q_gr
    go_enter Tryz.func23, Tryz.ntmps23
    go_wp2_with (first
        | (go_at_call 54; with_reducible refine (E0.out _ HB00.out).mono ?_; rintro e v1 ⟨ht, hb⟩; obtain rfl := ht.is H_ac.out; have HB01 := hide (HB00.out.trans (hb.mono HB00.out.size)); clear ht hb; have x4 := (row_on RX.out HB01.out).cell (i := 4) (by decide); have y4 := (row_on RY.out HB01.out).cell (i := 4) (by decide); simp only [lrow] at x4 y4)
        | (go_at_call 55; with_reducible refine (E1.out _ HB01.out).mono ?_; rintro e v2 ⟨ht, hb⟩; obtain rfl := ht.is H_rt.out; have HB02 := hide (HB01.out.trans (hb.mono HB01.out.size)); clear ht hb; have x5 := (row_on RX.out HB02.out).cell (i := 5) (by decide); have y5 := (row_on RY.out HB02.out).cell (i := 5) (by decide); simp only [lrow] at x5 y5)
        | (go_at_call 54; with_reducible refine (E2.out _ HB02.out).mono ?_; rintro e v3 ⟨ht, hb⟩; obtain rfl := ht.is H_wk.out; have HB03 := hide (HB02.out.trans (hb.mono HB02.out.size)); clear ht hb; have x6 := (row_on RX.out HB03.out).cell (i := 6) (by decide); have y6 := (row_on RY.out HB03.out).cell (i := 6) (by decide); simp only [lrow] at x6 y6)
        | (go_at_call 56; with_reducible refine (E3.out _ HB03.out).mono ?_; rintro e v4 ⟨ht, hb⟩; obtain rfl := ht.is H_ob.out; have HB04 := hide (HB03.out.trans (hb.mono HB03.out.size)); clear ht hb; have x7 := (row_on RX.out HB04.out).cell (i := 7) (by decide); have y7 := (row_on RY.out HB04.out).cell (i := 7) (by decide); simp only [lrow] at x7 y7)
        | (go_at_call 58; with_reducible refine (E4.out _ HB04.out).mono ?_; rintro e v5 ⟨ht, hb⟩; obtain rfl := ht.is H_fr.out; have HB05 := hide (HB04.out.trans (hb.mono HB04.out.size)); clear ht hb; have x8 := (row_on RX.out HB05.out).cell (i := 8) (by decide); have y8 := (row_on RY.out HB05.out).cell (i := 8) (by decide); simp only [lrow] at x8 y8)
        | (go_at_call 58; with_reducible refine (E5.out _ HB05.out).mono ?_; rintro e v6 ⟨ht, hb⟩; obtain rfl := ht.isnt HH.out; have HB06 := hide (HB05.out.trans (hb.mono HB05.out.size)); clear ht hb; have x9 := (row_on RX.out HB06.out).cell (i := 9) (by decide); have y9 := (row_on RY.out HB06.out).cell (i := 9) (by decide); simp only [lrow] at x9 y9))
    go_ret
    exact ⟨Tells.no (fun h => HH.out h.gr), HB.out.trans (HB06.out.mono HB.out.size)⟩
  have H_gr := hide q_gr
  clear q_gr
  by_cases q_qu : (c.qu = d.qu)
  rotate_left
  · have HH := hide q_qu
    clear q_qu
    go_enter Tryz.func23, Tryz.ntmps23
    go_wp2_with (first
        | (go_at_call 54; with_reducible refine (E0.out _ HB00.out).mono ?_; rintro e v1 ⟨ht, hb⟩; obtain rfl := ht.is H_ac.out; have HB01 := hide (HB00.out.trans (hb.mono HB00.out.size)); clear ht hb; have x4 := (row_on RX.out HB01.out).cell (i := 4) (by decide); have y4 := (row_on RY.out HB01.out).cell (i := 4) (by decide); simp only [lrow] at x4 y4)
        | (go_at_call 55; with_reducible refine (E1.out _ HB01.out).mono ?_; rintro e v2 ⟨ht, hb⟩; obtain rfl := ht.is H_rt.out; have HB02 := hide (HB01.out.trans (hb.mono HB01.out.size)); clear ht hb; have x5 := (row_on RX.out HB02.out).cell (i := 5) (by decide); have y5 := (row_on RY.out HB02.out).cell (i := 5) (by decide); simp only [lrow] at x5 y5)
        | (go_at_call 54; with_reducible refine (E2.out _ HB02.out).mono ?_; rintro e v3 ⟨ht, hb⟩; obtain rfl := ht.is H_wk.out; have HB03 := hide (HB02.out.trans (hb.mono HB02.out.size)); clear ht hb; have x6 := (row_on RX.out HB03.out).cell (i := 6) (by decide); have y6 := (row_on RY.out HB03.out).cell (i := 6) (by decide); simp only [lrow] at x6 y6)
        | (go_at_call 56; with_reducible refine (E3.out _ HB03.out).mono ?_; rintro e v4 ⟨ht, hb⟩; obtain rfl := ht.is H_ob.out; have HB04 := hide (HB03.out.trans (hb.mono HB03.out.size)); clear ht hb; have x7 := (row_on RX.out HB04.out).cell (i := 7) (by decide); have y7 := (row_on RY.out HB04.out).cell (i := 7) (by decide); simp only [lrow] at x7 y7)
        | (go_at_call 58; with_reducible refine (E4.out _ HB04.out).mono ?_; rintro e v5 ⟨ht, hb⟩; obtain rfl := ht.is H_fr.out; have HB05 := hide (HB04.out.trans (hb.mono HB04.out.size)); clear ht hb; have x8 := (row_on RX.out HB05.out).cell (i := 8) (by decide); have y8 := (row_on RY.out HB05.out).cell (i := 8) (by decide); simp only [lrow] at x8 y8)
        | (go_at_call 58; with_reducible refine (E5.out _ HB05.out).mono ?_; rintro e v6 ⟨ht, hb⟩; obtain rfl := ht.is H_gr.out; have HB06 := hide (HB05.out.trans (hb.mono HB05.out.size)); clear ht hb; have x9 := (row_on RX.out HB06.out).cell (i := 9) (by decide); have y9 := (row_on RY.out HB06.out).cell (i := 9) (by decide); simp only [lrow] at x9 y9)
        | (go_at_call 58; with_reducible refine (E6.out _ HB06.out).mono ?_; rintro e v7 ⟨ht, hb⟩; obtain rfl := ht.isnt HH.out; have HB07 := hide (HB06.out.trans (hb.mono HB06.out.size)); clear ht hb))
    go_ret
    exact ⟨Tells.no (fun h => HH.out h.qu), HB.out.trans (HB07.out.mono HB.out.size)⟩
  have H_qu := hide q_qu
  clear q_qu
  go_enter Tryz.func23, Tryz.ntmps23
  go_wp2_with (first
        | (go_at_call 54; with_reducible refine (E0.out _ HB00.out).mono ?_; rintro e v1 ⟨ht, hb⟩; obtain rfl := ht.is H_ac.out; have HB01 := hide (HB00.out.trans (hb.mono HB00.out.size)); clear ht hb; have x4 := (row_on RX.out HB01.out).cell (i := 4) (by decide); have y4 := (row_on RY.out HB01.out).cell (i := 4) (by decide); simp only [lrow] at x4 y4)
        | (go_at_call 55; with_reducible refine (E1.out _ HB01.out).mono ?_; rintro e v2 ⟨ht, hb⟩; obtain rfl := ht.is H_rt.out; have HB02 := hide (HB01.out.trans (hb.mono HB01.out.size)); clear ht hb; have x5 := (row_on RX.out HB02.out).cell (i := 5) (by decide); have y5 := (row_on RY.out HB02.out).cell (i := 5) (by decide); simp only [lrow] at x5 y5)
        | (go_at_call 54; with_reducible refine (E2.out _ HB02.out).mono ?_; rintro e v3 ⟨ht, hb⟩; obtain rfl := ht.is H_wk.out; have HB03 := hide (HB02.out.trans (hb.mono HB02.out.size)); clear ht hb; have x6 := (row_on RX.out HB03.out).cell (i := 6) (by decide); have y6 := (row_on RY.out HB03.out).cell (i := 6) (by decide); simp only [lrow] at x6 y6)
        | (go_at_call 56; with_reducible refine (E3.out _ HB03.out).mono ?_; rintro e v4 ⟨ht, hb⟩; obtain rfl := ht.is H_ob.out; have HB04 := hide (HB03.out.trans (hb.mono HB03.out.size)); clear ht hb; have x7 := (row_on RX.out HB04.out).cell (i := 7) (by decide); have y7 := (row_on RY.out HB04.out).cell (i := 7) (by decide); simp only [lrow] at x7 y7)
        | (go_at_call 58; with_reducible refine (E4.out _ HB04.out).mono ?_; rintro e v5 ⟨ht, hb⟩; obtain rfl := ht.is H_fr.out; have HB05 := hide (HB04.out.trans (hb.mono HB04.out.size)); clear ht hb; have x8 := (row_on RX.out HB05.out).cell (i := 8) (by decide); have y8 := (row_on RY.out HB05.out).cell (i := 8) (by decide); simp only [lrow] at x8 y8)
        | (go_at_call 58; with_reducible refine (E5.out _ HB05.out).mono ?_; rintro e v6 ⟨ht, hb⟩; obtain rfl := ht.is H_gr.out; have HB06 := hide (HB05.out.trans (hb.mono HB05.out.size)); clear ht hb; have x9 := (row_on RX.out HB06.out).cell (i := 9) (by decide); have y9 := (row_on RY.out HB06.out).cell (i := 9) (by decide); simp only [lrow] at x9 y9)
        | (go_at_call 58; with_reducible refine (E6.out _ HB06.out).mono ?_; rintro e v7 ⟨ht, hb⟩; obtain rfl := ht.is H_qu.out; have HB07 := hide (HB06.out.trans (hb.mono HB06.out.size)); clear ht hb))
  go_ret
  exact ⟨Tells.yes ⟨H_ph.out, H_co.out, H_ro.out, H_cn.out, H_ac.out, H_rt.out, H_wk.out, H_ob.out, H_fr.out, H_gr.out, H_qu.out⟩, HB.out.trans (HB07.out.mono HB.out.size)⟩
end Vw
end Go.Proofs.YtecjegjnnahddaaGreat
