/-
  Graph: objects' numbers and handles; Reach
-/
import Derived.Test.YtlbcjolbgeficaaGrD
namespace Go.Proofs.Ytlbcjolbgeficaa
open Go.RowKit
set_option linter.unusedVariables false
set_option linter.unusedSimpArgs false
set_option linter.unnecessarySimpa false
set_option maxRecDepth 20000
namespace Gr
theorem vcells {W : World} {b : Nat} {t : TypeId} {c : Vc} {a : Av} (R : W.rowIs b t 14 (lrow (vcl c a))) : W.cell? ⟨b, 0, none⟩ = some (.int .i64 a.ph) ∧ W.cell? ⟨b, 1, none⟩ = some (.int .i64 a.co) ∧ W.cell? ⟨b, 2, none⟩ = some (.int .u64 a.ro) ∧ W.cell? ⟨b, 3, none⟩ = some (.slice a.aa a.na a.ca) ∧ W.cell? ⟨b, 4, none⟩ = some (.slice a.ra c.rs.length a.cr) ∧ W.cell? ⟨b, 5, none⟩ = some (.slice a.wa a.nw a.cw) ∧ W.cell? ⟨b, 6, none⟩ = some (.slice a.oa c.os.length a.cb) ∧ W.cell? ⟨b, 7, none⟩ = some (.slice a.fa a.nf a.cf) ∧ W.cell? ⟨b, 8, none⟩ = some (.slice a.ga a.ng a.cg) ∧ W.cell? ⟨b, 9, none⟩ = some (.slice a.qa c.qu.length a.cq) ∧ W.cell? ⟨b, 10, none⟩ = some (.int .u64 a.k0) ∧ W.cell? ⟨b, 11, none⟩ = some (.int .u64 a.k1) ∧ W.cell? ⟨b, 12, none⟩ = some (.int .u64 a.k2) ∧ W.cell? ⟨b, 13, none⟩ = some (.int .u64 a.k3) :=
  ⟨R.cell (i := 0) (by decide), R.cell (i := 1) (by decide), R.cell (i := 2) (by decide), R.cell (i := 3) (by decide), R.cell (i := 4) (by decide), R.cell (i := 5) (by decide), R.cell (i := 6) (by decide), R.cell (i := 7) (by decide), R.cell (i := 8) (by decide), R.cell (i := 9) (by decide), R.cell (i := 10) (by decide), R.cell (i := 11) (by decide), R.cell (i := 12) (by decide), R.cell (i := 13) (by decide)⟩

theorem isObject_ok {c : Vc} {a : Av} {w : World} (hno : c.os.length ≤ 4398046511104) (k : Int) : Calls Try.prog 23 #[.slice a.oa c.os.length a.cb, .int .i64 k] w fun e w' => Tells e (1 ≤ k ∧ k ≤ (c.os.length : Int)) ∧ Below w.heap.size w w' := by
  refine (isObj_ok k).mono ?_
  rintro e w' ⟨rfl, rfl⟩
  exact ⟨⟨_, rfl, by simp⟩, Below.refl _ _⟩

set_option maxHeartbeats 2000000 in
theorem handleOf_ok {c : Vc} {a : Av} {w : World} (hS : Sob w a.oa c.os) (hno : c.os.length ≤ 4398046511104) {q : Nat} {o : Ob} (ho : c.os[q]? = some o) : Calls Try.prog 24 #[vl c a, .int .i64 ((q : Int) + 1)] w fun e w' => e = .returned (.int .u64 (hd ((q : Int) + 1) o.ge)) ∧ Below w.heap.size w w' := by
  obtain ⟨W0, hW0, B0, R0⟩ := vbox w c a
  have c6 := (vcells R0).2.2.2.2.2.2.1
  have HB0 := hide B0
  obtain ⟨b, off, ai, ci, hoa, hbl, hoc, hse⟩ := hS.below B0 q o ho
  have o5 := (Ob.cells9 hoc).2.2.2.2.2.1
  have hq : q < c.os.length := (List.getElem?_eq_some_iff.1 ho).1
  clear B0 R0 hoc hse
  obtain ⟨ph, co, ro, aa, na, ca, ra, cr, wa, nw, cw, oa, cb, fa, nf, cf, ga, ng, cg, qa, cq, k0, k1, k2, k3⟩ := a
  simp only [vl]
  simp only at hW0 c6 hoa
  subst hoa
  obtain ⟨n, hn⟩ : ∃ n, c.os.length = n := ⟨_, rfl⟩
  rw [hn] at hW0 c6 hq hno ⊢
  have hq2 : (q : Int) < (n : Int) := by omega
  clear hn hS ho
  go_enter Try.func24, Try.ntmps24
  go_wp2_with (go_at_call 31; refine (handle_any _ _ _).mono ?_; rintro e w1 ⟨rfl, hq⟩; obtain rfl := hq.symm; clear hq)
  go_ret
  exact ⟨rfl, HB0.out⟩

/-- Which ones are reached. -/
noncomputable def rb (os : List Ob) (l : List Int) (i : Nat) : Bool := @decide (Rc os l (i + 1)) (Classical.propDecidable _)
theorem rb_iff (os : List Ob) (l : List Int) (i : Nat) : rb os l i = true ↔ Rc os l (i + 1) := by simp [rb]
theorem Gi.rb {os : List Ob} {l : List Int} {s : Wk} (G : Gi os l s.ln.length s) (i : Nat) : (s.A i != 0) = rb os l i := by
  have h1 := G.rc i
  have h2 := rb_iff os l i
  cases h : Gr.rb os l i with
  | true => rw [h] at h2; simpa using h1.2 (h2.1 rfl)
  | false =>
    rw [h] at h2
    have : ¬ Rc os l (i + 1) := fun hr => by have := h2.2 hr; cases this
    have h3 : ¬ s.A i ≠ 0 := fun hA => this (h1.1 hA)
    simpa using h3
/-- A row of truths that a call tells in memory of its own. -/
def Bt (w w' : World) (e : Ending) (n : Nat) (f : Nat → Bool) : Prop := ∃ g, e = .returned (.slice (some ⟨g, 0, none⟩) n n) ∧ w.heap.size ≤ g ∧ w'.rowIs g 4 n (fun i => .bool (f i)) ∧ Below w.heap.size w w'

set_option maxHeartbeats 4000000 in
theorem reach_ok {c : Vc} {a : Av} {w : World} {fa' : Option Addr} {fc : Nat} {l : List Int} (hS : Sob w a.oa c.os) (hL : SeesU w fa' l) (hBd : Bd c.os) (hW : Wd l) (hll : l.length ≤ 35184372088832) :
    Calls Try.prog 7 #[vl c a, .slice fa' l.length fc] w fun e w' => Bt w w' e c.os.length (rb c.os l) := by
  have hmk := run_make_row' (P := Try.prog) 32 4 _ 1 Try.underlying32 infoBb rfl .i64 .i64 c.os.length (by have := hBd.no; omega) (by have := hBd.no; omega)
  have hnoB := hBd.no
  obtain ⟨W0, hW0, B0, R0⟩ := vbox w c a
  have c6 := (vcells R0).2.2.2.2.2.2.1
  have l0 : w.heap.size < W0.heap.size := R0.lt
  have s0 : W0.heap.size = w.heap.size + 1 := by rw [← hW0]; simp
  obtain ⟨W1, hW1⟩ : ∃ W1, W0.alloc (.cells (madeCells #[.bool false] c.os.length) 4) = W1 := ⟨_, rfl⟩
  have B1 : Below w.heap.size w W1 := by rw [← hW1]; exact B0.alloc (by omega) _
  have R1 : W1.rowIs W0.heap.size 4 c.os.length (fun _ => .bool false) := by rw [← hW1]; exact rows_made _ _ _ _
  have c6' : W1.cell? ⟨w.heap.size, 6, none⟩ = some (.slice a.oa c.os.length a.cb) := (R0.alloc (.cells (madeCells #[.bool false] c.os.length) 4) |> fun R => by rw [hW1] at R; exact (vcells R).2.2.2.2.2.2.1)
  have WK := hide (walked_ok (cb := a.cb) (fc := fc) (hS.below B1) (hL.below B1) hBd hW hll)
  have HB1 := hide B1
  have HR1 := hide R1
  clear B0 R0 B1 R1 hS hL hBd hW s0
  obtain ⟨ph, co, ro, aa, na, ca, ra, cr, wa, nw, cw, oa, cb, fa, nf, cf, ga, ng, cg, qa, cq, k0, k1, k2, k3⟩ := a
  simp only [vl]
  simp only at hW0 c6 c6' WK
  have Hos := hide (show c.os = c.os from rfl)
  obtain ⟨n, hn⟩ : ∃ n, c.os.length = n := ⟨_, rfl⟩
  obtain ⟨N, hN⟩ : ∃ N, l.length = N := ⟨_, rfl⟩
  rw [hn] at hW0 c6 c6' WK hmk hW1 HR1 hnoB ⊢
  rw [hN] at WK ⊢
  have Hn := hide hn
  clear hn hN hll
  go_enter Try.func7, Try.ntmps7
  go_upto_region 2 with (fail)
  clear hW0 c6
  go_upto_region 3 with (go_at_call 22; refine WK.out.mono ?_; rintro e w2 ⟨s, g, rfl, hg, hG, hr, hb⟩; rw [Hn.out] at hr; (try rw [Hn.out]); have HG := hide hG; have HR2 := hide hr; have HB2 := hide hb; clear hG hr hb)
  clear hmk hW1 WK c6'
  have s1 : W0.heap.size < W1.heap.size := HR1.out.lt
  have HR3 := hide (row_on HR1.out HB2.out)
  go_wp2_with fail
  go_loopw [17] (fun i wr => ∃ k : Nat, k ≤ n ∧ i = .int .i64 k ∧ Hid (wr.rowIs W0.heap.size 4 n (fun i => .bool (decide (i < k) && rb c.os l i))) ∧ Hid (wr.rowIs g 3 n (fun i => .int .i64 (s.A i))) ∧ Hid (Below w.heap.size w wr)) (fun i _ => n - (intOf i).toNat)
  case atStart =>
    refine ⟨0, Nat.zero_le _, rfl, ?_, HR2.out, HB1.out.trans (HB2.out.mono HB1.out.size)⟩
    exact HR3.out.congr (fun i hi => by simp)
  case round =>
    obtain ⟨k, hk, rfl, HA, HC, HBr⟩ := hrel
    by_cases hlt : k < n
    · have hkn : (k : Int) < (n : Int) := by omega
      have d0 := HC.out.cell hlt
      have e0 := HA.out.cell hlt
      have f0 := HA.out.frozen k
      have RB := hide (HG.out.rb k)
      obtain ⟨bv, hbv⟩ : ∃ bv, (s.A k != 0) = bv := ⟨_, rfl⟩
      rw [hbv] at RB
      go_wp2_with fail
      go_roundw
      case rel =>
        refine ⟨k + 1, by omega, by go_num, ?_, HC.out.setOther (by simp only; omega) _, HBr.out.setCell (by simp only; omega) _⟩
        refine (HA.out.set k _).congr (fun i hi => ?_)
        by_cases e : i = k
        · subst e
          simp [RB.out]
        · have : decide (i < k + 1) = decide (i < k) := by simp; omega
          simp only [this]
          rw [if_neg e]
      case measure => simp [intOf]; omega
    · have hkn : ¬ (k : Int) < (n : Int) := by omega
      go_wp2_with fail
      go_ret
      refine ⟨_, rfl, by omega, ?_, HBr.out⟩
      exact HA.out.congr (fun i hi => by simp; omega)
end Gr
end Go.Proofs.Ytlbcjolbgeficaa
