/-
  Graph: the document's example is alive
-/
import Derived.Test.YtlbcjolbgeficaaGrI
import Derived.Test.YtlbcjolbgeficaaGrH
namespace Go.Proofs.Ytlbcjolbgeficaa
open Go.RowKit
set_option linter.unusedVariables false
set_option linter.unusedSimpArgs false
set_option linter.unnecessarySimpa false
set_option maxRecDepth 20000
namespace Gr
def oE (h : Int) : Ob := ⟨true, false, false, false, 0, 0, 0, 0, [h]⟩
/-- The document's example. -/
def cE : Vc := ⟨[[0, 1]], [oE 2, oE 2, oE 1], []⟩
def aE (b : Nat) : Av := ⟨0, 0, 0, none, 0, 0, some ⟨b + 1 + 1 + 1 + 1 + 1, 0, none⟩, 1, none, 0, 0, some ⟨b + 1 + 1 + 1, 0, none⟩, 3, none, 0, 0, none, 0, 0, none, 0, 0, 0, 0, 0⟩
theorem rtsE : rts cE = [1] := by decide
theorem gd1 : gd cE.os 1 = 1 := by decide
theorem gd2 : gd cE.os 2 = 2 := by decide
theorem rc1 : Rc cE.os [1] 1 := by
  have := Rc.root (os := cE.os) (fr := [1]) (h := 1) (by simp) (by rw [gd1]; decide)
  rw [gd1] at this
  exact this
theorem rc2 : Rc cE.os [1] 2 := by
  have := Rc.step (os := cE.os) (fr := [1]) (k := 1) (o := oE 2) (h := 2) rc1 rfl (by simp [oE]) (by rw [gd2]; decide)
  rw [gd2] at this
  exact this
theorem rcE {k : Nat} (h : Rc cE.os [1] k) : k = 1 ∨ k = 2 := by
  induction h with
  | root h1 h2 => simp at h1; subst h1; rw [gd1]; exact .inl rfl
  | @step k o h _ h2 h3 h4 ih =>
    rcases ih with rfl | rfl
    · cases (Option.some.inj h2 : oE 2 = o)
      simp [oE] at h3
      subst h3
      rw [gd2]; exact .inr rfl
    · cases (Option.some.inj h2 : oE 2 = o)
      simp [oE] at h3
      subst h3
      rw [gd2]; exact .inr rfl
theorem rbE1 : rb cE.os (rts cE) 1 = true := by rw [rb_iff, rtsE]; exact rc2
theorem rbE0 : rb cE.os (rts cE) 0 = true := by rw [rb_iff, rtsE]; exact rc1
theorem rbE2 : rb cE.os (rts cE) 2 = false := by
  cases h : rb cE.os (rts cE) 2 with
  | false => rfl
  | true =>
    rw [rb_iff, rtsE] at h
    rcases rcE h with h | h <;> omega
theorem ddE : dd cE = [3] := by
  have e : cE.os.length = 3 := rfl
  unfold dd
  rw [e, ddk_step, ddk_step, ddk_step]
  have p0 : ddp cE 0 = false := by simp [ddp, rbE0]
  have p1 : ddp cE 1 = false := by simp [ddp, rbE1]
  have p2 : ddp cE 2 = true := by simp [ddp, rbE2]; rfl
  rw [p0, p1, p2]
  rfl
theorem aE1 {s : Wk} (G : Gi cE.os (rts cE) s.ln.length s) (h : s.a 1 ≠ 0) : s.a 1 = -1 := by
  have hm := (G.me 1 (by omega)).2 h
  obtain ⟨i, hi⟩ := List.mem_iff_getElem?.1 hm
  rcases G.tree i 1 hi with ⟨h1, _⟩ | ⟨j, p, o, x, _, h2, h3, h4, h5, h6, h7⟩
  · exact h1
  · exfalso
    have hp := G.rng p (List.mem_of_getElem? h3)
    have hr : Rc cE.os (rts cE) p.toNat := by
      have := (G.rc (p.toNat - 1)).1 ((G.me p hp.1).1 (List.mem_of_getElem? h3))
      rw [show p.toNat - 1 + 1 = p.toNat by omega] at this
      exact this
    rw [rtsE] at hr
    have ho : o = oE 2 := by
      rcases rcE hr with e | e
      · rw [e] at h5; exact (Option.some.inj h5).symm
      · rw [e] at h5; exact (Option.some.inj h5).symm
    subst ho
    simp [oE] at h6
    subst h6
    rw [gd2] at h7
    revert h7
    decide
theorem aE2 {s : Wk} (G : Gi cE.os (rts cE) s.ln.length s) (h : s.a 2 ≠ 0) : s.a 2 = 1 := by
  have hm := (G.me 2 (by omega)).2 h
  obtain ⟨i, hi⟩ := List.mem_iff_getElem?.1 hm
  rcases G.tree i 2 hi with ⟨h1, x, hx, hg⟩ | ⟨j, p, o, x, _, h2, h3, h4, h5, h6, h7⟩
  · exfalso
    rw [rtsE] at hx
    simp at hx
    subst hx
    rw [gd1] at hg
    revert hg
    decide
  · have hp := G.rng p (List.mem_of_getElem? h3)
    have hr : Rc cE.os (rts cE) p.toNat := by
      have := (G.rc (p.toNat - 1)).1 ((G.me p hp.1).1 (List.mem_of_getElem? h3))
      rw [show p.toNat - 1 + 1 = p.toNat by omega] at this
      exact this
    rw [rtsE] at hr
    rcases rcE hr with e | e
    · rw [h4]; omega
    · have e2 : p = 2 := by omega
      subst e2
      have := nd_inj G.nd hi h3
      omega
theorem wlE {l : List Int} (h : Wl cE 2 l) : l = [1, 2] := by
  rcases h with ⟨_, h⟩ | ⟨s, q, hq, hA, G, hC⟩
  · exact absurd ⟨by omega, by decide, by rw [rtsE]; exact rc2⟩ h
  · obtain rfl : q = 1 := by omega
    have h2 : s.a 2 ≠ 0 := hA
    cases hr : l.reverse with
    | nil => rw [hr] at hC; cases hC
    | cons x l1 =>
      rw [hr] at hC
      cases hC with
      | cons _ _ hC1 =>
        rw [aE2 G h2] at hC1
        cases hC1 with
        | @cons _ l2 _ h1 hC2 =>
          rw [aE1 G h1] at hC2
          cases hC2 with
          | nil =>
            have := congrArg List.reverse hr
            simpa using this
          | cons h _ _ => omega
theorem bvE : Bv cE := by
  refine ⟨⟨by decide, ?_, ?_, ?_⟩, by decide, ?_, by decide, by decide⟩
  · intro o ho; simp [cE] at ho; rcases ho with rfl | rfl <;> simp [oE]
  · intro o ho; simp [cE] at ho; rcases ho with rfl | rfl <;> (intro u hu; simp [oE] at hu; omega)
  · intro o ho; simp [cE] at ho; rcases ho with rfl | rfl <;> simp [oE]
  · intro l hl; simp [cE] at hl; subst hl; exact ⟨by simp, by intro u hu; simp at hu; omega⟩

theorem ex_world (w : World) : ∃ W, ((((((w.alloc (.cells #[.int .u64 2] 22)).alloc (.cells #[.int .u64 2] 22)).alloc (.cells #[.int .u64 1] 22)).alloc (.cells #[.bool true, .bool false, .bool false, .bool false, .int .i64 0, .int .u64 0, .int .u64 0, .int .u64 0, .slice (some ⟨w.heap.size, 0, none⟩) 1 1, .bool true, .bool false, .bool false, .bool false, .int .i64 0, .int .u64 0, .int .u64 0, .int .u64 0, .slice (some ⟨w.heap.size + 1, 0, none⟩) 1 1, .bool true, .bool false, .bool false, .bool false, .int .i64 0, .int .u64 0, .int .u64 0, .int .u64 0, .slice (some ⟨w.heap.size + 1 + 1, 0, none⟩) 1 1] 41)).alloc (.cells #[.int .u64 0, .int .u64 1] 22)).alloc (.cells #[.slice (some ⟨w.heap.size + 1 + 1 + 1 + 1, 0, none⟩) 2 2] 23)).alloc (.cells #[.int .i64 0, .int .i64 0, .int .u64 0, .slice none 0 0, .slice (some ⟨w.heap.size + 1 + 1 + 1 + 1 + 1, 0, none⟩) 1 1, .slice none 0 0, .slice (some ⟨w.heap.size + 1 + 1 + 1, 0, none⟩) 3 3, .slice none 0 0, .slice none 0 0, .slice none 0 0, .int .u64 0, .int .u64 0, .int .u64 0, .int .u64 0] 29) = W ∧ Below w.heap.size w W ∧ Shows W cE (aE w.heap.size) ∧ W.rowIs (w.heap.size + 1 + 1 + 1 + 1 + 1 + 1) 29 14 (lrow (vcl cE (aE w.heap.size))) := by
  obtain ⟨W, hW⟩ : ∃ W, ((((((w.alloc (.cells #[.int .u64 2] 22)).alloc (.cells #[.int .u64 2] 22)).alloc (.cells #[.int .u64 1] 22)).alloc (.cells #[.bool true, .bool false, .bool false, .bool false, .int .i64 0, .int .u64 0, .int .u64 0, .int .u64 0, .slice (some ⟨w.heap.size, 0, none⟩) 1 1, .bool true, .bool false, .bool false, .bool false, .int .i64 0, .int .u64 0, .int .u64 0, .int .u64 0, .slice (some ⟨w.heap.size + 1, 0, none⟩) 1 1, .bool true, .bool false, .bool false, .bool false, .int .i64 0, .int .u64 0, .int .u64 0, .int .u64 0, .slice (some ⟨w.heap.size + 1 + 1, 0, none⟩) 1 1] 41)).alloc (.cells #[.int .u64 0, .int .u64 1] 22)).alloc (.cells #[.slice (some ⟨w.heap.size + 1 + 1 + 1 + 1, 0, none⟩) 2 2] 23)).alloc (.cells #[.int .i64 0, .int .i64 0, .int .u64 0, .slice none 0 0, .slice (some ⟨w.heap.size + 1 + 1 + 1 + 1 + 1, 0, none⟩) 1 1, .slice none 0 0, .slice (some ⟨w.heap.size + 1 + 1 + 1, 0, none⟩) 3 3, .slice none 0 0, .slice none 0 0, .slice none 0 0, .int .u64 0, .int .u64 0, .int .u64 0, .int .u64 0] 29) = W := ⟨_, rfl⟩
  have r0 : W.rowIs (w.heap.size) 22 1 (lrow [.int .u64 2]) := by
    have := (((((((rowL_alloc w [.int .u64 2] 22 (n := 1) rfl).alloc (.cells [.int .u64 2].toArray 22)).alloc (.cells [.int .u64 1].toArray 22)).alloc (.cells [.bool true, .bool false, .bool false, .bool false, .int .i64 0, .int .u64 0, .int .u64 0, .int .u64 0, .slice (some ⟨w.heap.size, 0, none⟩) 1 1, .bool true, .bool false, .bool false, .bool false, .int .i64 0, .int .u64 0, .int .u64 0, .int .u64 0, .slice (some ⟨w.heap.size + 1, 0, none⟩) 1 1, .bool true, .bool false, .bool false, .bool false, .int .i64 0, .int .u64 0, .int .u64 0, .int .u64 0, .slice (some ⟨w.heap.size + 1 + 1, 0, none⟩) 1 1].toArray 41)).alloc (.cells [.int .u64 0, .int .u64 1].toArray 22)).alloc (.cells [.slice (some ⟨w.heap.size + 1 + 1 + 1 + 1, 0, none⟩) 2 2].toArray 23)).alloc (.cells (vcl cE (aE w.heap.size)).toArray 29))
    rw [← hW]
    simpa [vcl, aE, cE] using this
  have r1 : W.rowIs (w.heap.size + 1) 22 1 (lrow [.int .u64 2]) := by
    have := ((((((rowL_alloc (w.alloc (.cells [.int .u64 2].toArray 22)) [.int .u64 2] 22 (n := 1) rfl).alloc (.cells [.int .u64 1].toArray 22)).alloc (.cells [.bool true, .bool false, .bool false, .bool false, .int .i64 0, .int .u64 0, .int .u64 0, .int .u64 0, .slice (some ⟨w.heap.size, 0, none⟩) 1 1, .bool true, .bool false, .bool false, .bool false, .int .i64 0, .int .u64 0, .int .u64 0, .int .u64 0, .slice (some ⟨w.heap.size + 1, 0, none⟩) 1 1, .bool true, .bool false, .bool false, .bool false, .int .i64 0, .int .u64 0, .int .u64 0, .int .u64 0, .slice (some ⟨w.heap.size + 1 + 1, 0, none⟩) 1 1].toArray 41)).alloc (.cells [.int .u64 0, .int .u64 1].toArray 22)).alloc (.cells [.slice (some ⟨w.heap.size + 1 + 1 + 1 + 1, 0, none⟩) 2 2].toArray 23)).alloc (.cells (vcl cE (aE w.heap.size)).toArray 29))
    rw [← hW]
    simpa [vcl, aE, cE] using this
  have r2 : W.rowIs (w.heap.size + 1 + 1) 22 1 (lrow [.int .u64 1]) := by
    have := (((((rowL_alloc ((w.alloc (.cells [.int .u64 2].toArray 22)).alloc (.cells [.int .u64 2].toArray 22)) [.int .u64 1] 22 (n := 1) rfl).alloc (.cells [.bool true, .bool false, .bool false, .bool false, .int .i64 0, .int .u64 0, .int .u64 0, .int .u64 0, .slice (some ⟨w.heap.size, 0, none⟩) 1 1, .bool true, .bool false, .bool false, .bool false, .int .i64 0, .int .u64 0, .int .u64 0, .int .u64 0, .slice (some ⟨w.heap.size + 1, 0, none⟩) 1 1, .bool true, .bool false, .bool false, .bool false, .int .i64 0, .int .u64 0, .int .u64 0, .int .u64 0, .slice (some ⟨w.heap.size + 1 + 1, 0, none⟩) 1 1].toArray 41)).alloc (.cells [.int .u64 0, .int .u64 1].toArray 22)).alloc (.cells [.slice (some ⟨w.heap.size + 1 + 1 + 1 + 1, 0, none⟩) 2 2].toArray 23)).alloc (.cells (vcl cE (aE w.heap.size)).toArray 29))
    rw [← hW]
    simpa [vcl, aE, cE] using this
  have r3 : W.rowIs (w.heap.size + 1 + 1 + 1) 41 27 (lrow [.bool true, .bool false, .bool false, .bool false, .int .i64 0, .int .u64 0, .int .u64 0, .int .u64 0, .slice (some ⟨w.heap.size, 0, none⟩) 1 1, .bool true, .bool false, .bool false, .bool false, .int .i64 0, .int .u64 0, .int .u64 0, .int .u64 0, .slice (some ⟨w.heap.size + 1, 0, none⟩) 1 1, .bool true, .bool false, .bool false, .bool false, .int .i64 0, .int .u64 0, .int .u64 0, .int .u64 0, .slice (some ⟨w.heap.size + 1 + 1, 0, none⟩) 1 1]) := by
    have := ((((rowL_alloc (((w.alloc (.cells [.int .u64 2].toArray 22)).alloc (.cells [.int .u64 2].toArray 22)).alloc (.cells [.int .u64 1].toArray 22)) [.bool true, .bool false, .bool false, .bool false, .int .i64 0, .int .u64 0, .int .u64 0, .int .u64 0, .slice (some ⟨w.heap.size, 0, none⟩) 1 1, .bool true, .bool false, .bool false, .bool false, .int .i64 0, .int .u64 0, .int .u64 0, .int .u64 0, .slice (some ⟨w.heap.size + 1, 0, none⟩) 1 1, .bool true, .bool false, .bool false, .bool false, .int .i64 0, .int .u64 0, .int .u64 0, .int .u64 0, .slice (some ⟨w.heap.size + 1 + 1, 0, none⟩) 1 1] 41 (n := 27) rfl).alloc (.cells [.int .u64 0, .int .u64 1].toArray 22)).alloc (.cells [.slice (some ⟨w.heap.size + 1 + 1 + 1 + 1, 0, none⟩) 2 2].toArray 23)).alloc (.cells (vcl cE (aE w.heap.size)).toArray 29))
    rw [← hW]
    simpa [vcl, aE, cE] using this
  have r4 : W.rowIs (w.heap.size + 1 + 1 + 1 + 1) 22 2 (lrow [.int .u64 0, .int .u64 1]) := by
    have := (((rowL_alloc ((((w.alloc (.cells [.int .u64 2].toArray 22)).alloc (.cells [.int .u64 2].toArray 22)).alloc (.cells [.int .u64 1].toArray 22)).alloc (.cells [.bool true, .bool false, .bool false, .bool false, .int .i64 0, .int .u64 0, .int .u64 0, .int .u64 0, .slice (some ⟨w.heap.size, 0, none⟩) 1 1, .bool true, .bool false, .bool false, .bool false, .int .i64 0, .int .u64 0, .int .u64 0, .int .u64 0, .slice (some ⟨w.heap.size + 1, 0, none⟩) 1 1, .bool true, .bool false, .bool false, .bool false, .int .i64 0, .int .u64 0, .int .u64 0, .int .u64 0, .slice (some ⟨w.heap.size + 1 + 1, 0, none⟩) 1 1].toArray 41)) [.int .u64 0, .int .u64 1] 22 (n := 2) rfl).alloc (.cells [.slice (some ⟨w.heap.size + 1 + 1 + 1 + 1, 0, none⟩) 2 2].toArray 23)).alloc (.cells (vcl cE (aE w.heap.size)).toArray 29))
    rw [← hW]
    simpa [vcl, aE, cE] using this
  have r5 : W.rowIs (w.heap.size + 1 + 1 + 1 + 1 + 1) 23 1 (lrow [.slice (some ⟨w.heap.size + 1 + 1 + 1 + 1, 0, none⟩) 2 2]) := by
    have := ((rowL_alloc (((((w.alloc (.cells [.int .u64 2].toArray 22)).alloc (.cells [.int .u64 2].toArray 22)).alloc (.cells [.int .u64 1].toArray 22)).alloc (.cells [.bool true, .bool false, .bool false, .bool false, .int .i64 0, .int .u64 0, .int .u64 0, .int .u64 0, .slice (some ⟨w.heap.size, 0, none⟩) 1 1, .bool true, .bool false, .bool false, .bool false, .int .i64 0, .int .u64 0, .int .u64 0, .int .u64 0, .slice (some ⟨w.heap.size + 1, 0, none⟩) 1 1, .bool true, .bool false, .bool false, .bool false, .int .i64 0, .int .u64 0, .int .u64 0, .int .u64 0, .slice (some ⟨w.heap.size + 1 + 1, 0, none⟩) 1 1].toArray 41)).alloc (.cells [.int .u64 0, .int .u64 1].toArray 22)) [.slice (some ⟨w.heap.size + 1 + 1 + 1 + 1, 0, none⟩) 2 2] 23 (n := 1) rfl).alloc (.cells (vcl cE (aE w.heap.size)).toArray 29))
    rw [← hW]
    simpa [vcl, aE, cE] using this
  have r6 : W.rowIs (w.heap.size + 1 + 1 + 1 + 1 + 1 + 1) 29 14 (lrow (vcl cE (aE w.heap.size))) := by
    have := (rowL_alloc ((((((w.alloc (.cells [.int .u64 2].toArray 22)).alloc (.cells [.int .u64 2].toArray 22)).alloc (.cells [.int .u64 1].toArray 22)).alloc (.cells [.bool true, .bool false, .bool false, .bool false, .int .i64 0, .int .u64 0, .int .u64 0, .int .u64 0, .slice (some ⟨w.heap.size, 0, none⟩) 1 1, .bool true, .bool false, .bool false, .bool false, .int .i64 0, .int .u64 0, .int .u64 0, .int .u64 0, .slice (some ⟨w.heap.size + 1, 0, none⟩) 1 1, .bool true, .bool false, .bool false, .bool false, .int .i64 0, .int .u64 0, .int .u64 0, .int .u64 0, .slice (some ⟨w.heap.size + 1 + 1, 0, none⟩) 1 1].toArray 41)).alloc (.cells [.int .u64 0, .int .u64 1].toArray 22)).alloc (.cells [.slice (some ⟨w.heap.size + 1 + 1 + 1 + 1, 0, none⟩) 2 2].toArray 23)) (vcl cE (aE w.heap.size)) 29 (n := 14) rfl)
    rw [← hW]
    simpa [vcl, aE, cE] using this
  refine ⟨W, hW, ?_, ⟨?_, ?_, ?_⟩, r6⟩
  · rw [← hW]
    refine Below.alloc (Below.alloc (Below.alloc (Below.alloc (Below.alloc (Below.alloc (Below.alloc (Below.refl _ w) ?_ _) ?_ _) ?_ _) ?_ _) ?_ _) ?_ _) ?_ _ <;> simp <;> omega
  · intro j l hj
    match j with
    | 0 =>
      cases (Option.some.inj hj : [0, 1] = l)
      refine ⟨w.heap.size + 1 + 1 + 1 + 1 + 1, 0, some ⟨w.heap.size + 1 + 1 + 1 + 1, 0, none⟩, 2, rfl, r5.lt, r5.cell (i := 0) (by decide), ?_⟩
      intro i u hi
      match i with
      | 0 => cases (Option.some.inj hi : (0 : Int) = u); exact ⟨w.heap.size + 1 + 1 + 1 + 1, 0, rfl, r4.lt, r4.cell (i := 0) (by decide)⟩
      | 1 => cases (Option.some.inj hi : (1 : Int) = u); exact ⟨w.heap.size + 1 + 1 + 1 + 1, 0, rfl, r4.lt, r4.cell (i := 1) (by decide)⟩
      | i + 2 => simp at hi
    | j + 1 => simp [cE] at hj
  · intro j o hj
    match j with
    | 0 =>
      cases (Option.some.inj hj : oE 2 = o)
      refine ⟨w.heap.size + 1 + 1 + 1, 0, some ⟨w.heap.size, 0, none⟩, 1, rfl, r3.lt, ?_, ?_⟩
      · intro q hq
        match q, hq with
        | 0, _ => exact r3.cell (i := 0) (by decide)
        | 1, _ => exact r3.cell (i := 1) (by decide)
        | 2, _ => exact r3.cell (i := 2) (by decide)
        | 3, _ => exact r3.cell (i := 3) (by decide)
        | 4, _ => exact r3.cell (i := 4) (by decide)
        | 5, _ => exact r3.cell (i := 5) (by decide)
        | 6, _ => exact r3.cell (i := 6) (by decide)
        | 7, _ => exact r3.cell (i := 7) (by decide)
        | 8, _ => exact r3.cell (i := 8) (by decide)
      · intro i u hi
        match i with
        | 0 => cases (Option.some.inj hi : (2 : Int) = u); exact ⟨w.heap.size, 0, rfl, r0.lt, r0.cell (i := 0) (by decide)⟩
        | i + 1 => simp [oE] at hi
    | 1 =>
      cases (Option.some.inj hj : oE 2 = o)
      refine ⟨w.heap.size + 1 + 1 + 1, 0, some ⟨w.heap.size + 1, 0, none⟩, 1, rfl, r3.lt, ?_, ?_⟩
      · intro q hq
        match q, hq with
        | 0, _ => exact r3.cell (i := 9) (by decide)
        | 1, _ => exact r3.cell (i := 10) (by decide)
        | 2, _ => exact r3.cell (i := 11) (by decide)
        | 3, _ => exact r3.cell (i := 12) (by decide)
        | 4, _ => exact r3.cell (i := 13) (by decide)
        | 5, _ => exact r3.cell (i := 14) (by decide)
        | 6, _ => exact r3.cell (i := 15) (by decide)
        | 7, _ => exact r3.cell (i := 16) (by decide)
        | 8, _ => exact r3.cell (i := 17) (by decide)
      · intro i u hi
        match i with
        | 0 => cases (Option.some.inj hi : (2 : Int) = u); exact ⟨w.heap.size + 1, 0, rfl, r1.lt, r1.cell (i := 0) (by decide)⟩
        | i + 1 => simp [oE] at hi
    | 2 =>
      cases (Option.some.inj hj : oE 1 = o)
      refine ⟨w.heap.size + 1 + 1 + 1, 0, some ⟨w.heap.size + 1 + 1, 0, none⟩, 1, rfl, r3.lt, ?_, ?_⟩
      · intro q hq
        match q, hq with
        | 0, _ => exact r3.cell (i := 18) (by decide)
        | 1, _ => exact r3.cell (i := 19) (by decide)
        | 2, _ => exact r3.cell (i := 20) (by decide)
        | 3, _ => exact r3.cell (i := 21) (by decide)
        | 4, _ => exact r3.cell (i := 22) (by decide)
        | 5, _ => exact r3.cell (i := 23) (by decide)
        | 6, _ => exact r3.cell (i := 24) (by decide)
        | 7, _ => exact r3.cell (i := 25) (by decide)
        | 8, _ => exact r3.cell (i := 26) (by decide)
      · intro i u hi
        match i with
        | 0 => cases (Option.some.inj hi : (1 : Int) = u); exact ⟨w.heap.size + 1 + 1, 0, rfl, r2.lt, r2.cell (i := 0) (by decide)⟩
        | i + 1 => simp [oE] at hi
    | j + 3 => simp [cE] at hj
  · intro j x hj
    simp [cE] at hj

set_option maxHeartbeats 4000000 in
theorem alive_ok (w : World) : Calls Try.prog 5 #[] w fun e w' => e = .returned (.bool true) ∧ Below w.heap.size w w' := by
  obtain ⟨W, hW, BW, SW, RW⟩ := ex_world w
  have VF := hide (fun (wx : World) (hb : Below W.heap.size W wx) => vcells (row_on RW hb))
  have LI := hide (fun (wx : World) (hb : Below W.heap.size W wx) => live_ok (SW.below hb) bvE)
  have DE := hide (fun (wx : World) (hb : Below W.heap.size W wx) => dead_ok (SW.below hb) bvE)
  have WA := hide (fun (wx : World) (hb : Below W.heap.size W wx) => way_ok (SW.below hb) bvE 2)
  simp only [ddE] at DE
  simp only [vl, aE, cE, List.length_cons, List.length_nil, Nat.zero_add, Nat.reduceAdd] at VF LI DE WA
  have HBW := hide BW
  have D0 : Below W.heap.size W W.drew := ⟨rfl, rfl, rfl, Nat.le_refl _, fun _ _ => rfl⟩
  have K0 := VF.out W.drew D0
  have HHW := hide hW
  clear BW SW RW hW
  go_enter Try.func5, Try.ntmps5
  go_upto_region 2 with (fail)
  have hW2 := HHW.out
  simp only [hW2]
  clear hW2
  go_region_held (fun w' => w'.cell? ⟨w.heap.size + 1 + 1 + 1 + 1 + 1 + 1, 0, none⟩ = some (.int .i64 0) ∧ w'.cell? ⟨w.heap.size + 1 + 1 + 1 + 1 + 1 + 1, 1, none⟩ = some (.int .i64 0) ∧ w'.cell? ⟨w.heap.size + 1 + 1 + 1 + 1 + 1 + 1, 2, none⟩ = some (.int .u64 0) ∧ w'.cell? ⟨w.heap.size + 1 + 1 + 1 + 1 + 1 + 1, 3, none⟩ = some (.slice none 0 0) ∧ w'.cell? ⟨w.heap.size + 1 + 1 + 1 + 1 + 1 + 1, 4, none⟩ = some (.slice (some ⟨w.heap.size + 1 + 1 + 1 + 1 + 1, 0, none⟩) 1 1) ∧ w'.cell? ⟨w.heap.size + 1 + 1 + 1 + 1 + 1 + 1, 5, none⟩ = some (.slice none 0 0) ∧ w'.cell? ⟨w.heap.size + 1 + 1 + 1 + 1 + 1 + 1, 6, none⟩ = some (.slice (some ⟨w.heap.size + 1 + 1 + 1, 0, none⟩) 3 3) ∧ w'.cell? ⟨w.heap.size + 1 + 1 + 1 + 1 + 1 + 1, 7, none⟩ = some (.slice none 0 0) ∧ w'.cell? ⟨w.heap.size + 1 + 1 + 1 + 1 + 1 + 1, 8, none⟩ = some (.slice none 0 0) ∧ w'.cell? ⟨w.heap.size + 1 + 1 + 1 + 1 + 1 + 1, 9, none⟩ = some (.slice none 0 0) ∧ w'.cell? ⟨w.heap.size + 1 + 1 + 1 + 1 + 1 + 1, 10, none⟩ = some (.int .u64 0) ∧ w'.cell? ⟨w.heap.size + 1 + 1 + 1 + 1 + 1 + 1, 11, none⟩ = some (.int .u64 0) ∧ w'.cell? ⟨w.heap.size + 1 + 1 + 1 + 1 + 1 + 1, 12, none⟩ = some (.int .u64 0) ∧ w'.cell? ⟨w.heap.size + 1 + 1 + 1 + 1 + 1 + 1, 13, none⟩ = some (.int .u64 0)) (first | exact K0 | exact K3 | exact K2 | exact K1) (first
    | (go_at_call 9; refine (LI.out _ (by exact D0)).mono ?_; rintro e w1 ⟨g, rfl, hg, hr, hb⟩; have HR1 := hide hr; have HB1 := hide (D0.trans hb); have K1 := VF.out w1 HB1.out; clear hr hb)
    | (go_at_call 10; refine (DE.out _ (by exact HB1.out)).mono ?_; rintro e w2 ⟨a2, c2, rfl, hr, hb⟩; have HR2 := hide hr; have HB2 := hide hb; have K2 := VF.out w2 (HB1.out.trans (hb.mono HB1.out.size)); clear hr hb)
    | (go_at_call 11; refine (WA.out _ (by exact HB1.out.trans (HB2.out.mono HB1.out.size))).mono ?_; rintro e w3 ⟨l3, h3, a3, c3, rfl, hr, hb⟩; have HR3 := hide hr; have H3 := hide h3; have HB3 := hide hb; have K3 := VF.out w3 (HB1.out.trans ((HB2.out.trans (hb.mono HB2.out.size)).mono HB1.out.size)); clear hr hb h3))
  have l3e := wlE H3.out
  subst l3e
  have HR2e := HR2.out
  simp only [List.length_cons, List.length_nil, Nat.zero_add, Nat.reduceAdd]
  clear K0 K1 K2 K3 HR2 H3
  have d1 := (row_on (row_on HR1.out HB2.out) HB3.out).cell (i := 1) (by decide)
  have d2 := (row_on (row_on HR1.out HB2.out) HB3.out).cell (i := 2) (by decide)
  have rb1 := rbE1
  have rb2 := rbE2
  simp only [cE] at rb1 rb2
  rw [rb1] at d1
  rw [rb2] at d2
  obtain ⟨b2, rfl, _, _, e2, _⟩ := owns_cell (owns_on HR2e HB3.out) (i := 0) (u := .int .i64 3) rfl
  obtain ⟨b3, rfl, _, _, e3, _⟩ := owns_cell HR3.out (i := 0) (u := .int .i64 1) rfl
  obtain ⟨b4, e5, _, _, e4, _⟩ := owns_cell HR3.out (i := 1) (u := .int .i64 2) rfl
  cases e5
  clear rb1 rb2 HR2e
  go_wp2_with fail
  go_ret
  exact ⟨rfl, HBW.out.trans ((HB1.out.trans ((HB2.out.trans (HB3.out.mono HB2.out.size)).mono HB1.out.size)).mono HBW.out.size)⟩
end Gr
end Go.Proofs.Ytlbcjolbgeficaa
