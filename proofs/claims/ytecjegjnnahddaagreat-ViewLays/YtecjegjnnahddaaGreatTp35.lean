/-
  Lemmas: VwLg, VwBs, VwCe, VwLq, VwTw.
-/
import Derived.Test.YtecjegjnnahddaaGreatTp31
import Derived.Test.YtecjegjnnahddaaGreatTp17
import Derived.Test.YtecjegjnnahddaaGreatTp19
import Derived.Test.YtecjegjnnahddaaGreatTp18
import Derived.Test.YtecjegjnnahddaaGreatTp11
import Derived.Test.YtecjegjnnahddaaGreatTp32
import Derived.Test.YtecjegjnnahddaaGreatTp33
import Derived.Test.YtecjegjnnahddaaGreatTp34
import Derived.Test.YtecjegjnnahddaaGreatTp01
import Derived.Test.YtecjegjnnahddaaGreatTp26
import Derived.SizedLaws
import Derived.Deep.Slices
import Derived.Deep.Grids
import Derived.Laws.IdiomArrays
/-
  View: the package's Lay of a wrong shape
-/
namespace Go.Proofs.YtecjegjnnahddaaGreat
open Go.RowKit
set_option linter.unusedVariables false
set_option linter.unusedSimpArgs false
set_option maxRecDepth 20000
namespace Vw
open Shape

set_option maxHeartbeats 4000000 in
theorem vlay_bad {w : World} {s0 s1 s2 s3 s4 s5 : Int} {c : Cv} {a : Av} (H : ¬ R5 s0 s1 s2 s3 s4) :
    Calls Tryz.prog 7 #[.agg #[.int .i64 s0, .int .i64 s1, .int .i64 s2, .int .i64 s3, .int .i64 s4, .int .i64 s5], vl c a] w fun e w' => e = .returned (.tuple #[.slice none 0 0, .int .i64 120]) ∧ Below w.heap.size w w' := by
  have SZ := hide (fun w1 => size_bad (s5 := s5) H w1)
  obtain ⟨W1, hW1⟩ : ∃ W, (w.alloc (.cells #[.int .i64 s0, .int .i64 s1, .int .i64 s2, .int .i64 s3, .int .i64 s4, .int .i64 s5] 23)).alloc (.cells #[.int .i64 c.ph, .int .i64 c.co, .int .u64 c.ro, .slice a.aa c.na a.ca, .slice a.ra c.nr a.cr, .slice a.wa c.nw a.cw, .slice a.oa c.no a.cb, .slice a.fa c.fr.length a.cf, .slice a.ga c.gr.length a.cg, .slice a.qa c.qu.length a.cq, .int .u64 (c.cn 0), .int .u64 (c.cn 1), .int .u64 (c.cn 2), .int .u64 (c.cn 3)] 31) = W := ⟨_, rfl⟩
  have RM := hide (show W1.rowIs w.heap.size 23 6 (lrow [.int .i64 s0, .int .i64 s1, .int .i64 s2, .int .i64 s3, .int .i64 s4, .int .i64 s5]) by rw [← hW1]; exact (rowL_alloc w [.int .i64 s0, .int .i64 s1, .int .i64 s2, .int .i64 s3, .int .i64 s4, .int .i64 s5] _ rfl).alloc _)
  have HB1 := hide (show Below w.heap.size w W1 by rw [← hW1]; exact ((Below.refl _ w).alloc (Nat.le_refl _) _).alloc (by simp) _)
  obtain ⟨sb, hsb⟩ : ∃ sb, w.heap.size = sb := ⟨_, rfl⟩
  have z0 := RM.out.cell (i := 0) (by decide)
  have z1 := RM.out.cell (i := 1) (by decide)
  have z2 := RM.out.cell (i := 2) (by decide)
  have z3 := RM.out.cell (i := 3) (by decide)
  have z4 := RM.out.cell (i := 4) (by decide)
  have z5 := RM.out.cell (i := 5) (by decide)
  simp only [lrow] at z0 z1 z2 z3 z4 z5
  simp only [vl]
  clear H
  go_enter Tryz.func7, Tryz.ntmps7
  go_upto_region 1 with (fail)
  try simp only [hW1]
  try simp only [hsb]
  rw [hsb] at RM z0 z1 z2 z3 z4 z5
  go_wp2_with (go_at_call 21; refine (SZ.out _).mono ?_; rintro e w1 ⟨rfl, hb1⟩; have HB2 := hide hb1; clear hb1; clear z0 z1 z2 z3 z4 z5)
  exact bodyPost_ret (results_tmp2 (by rfl) _ _ _) rfl ⟨rfl, HB1.out.trans (HB2.out.mono HB1.out.size)⟩
end Vw
end Go.Proofs.YtecjegjnnahddaaGreat

/-
  View, pure: views that show the same: what is told of one holds of the other
-/
namespace Go.Proofs.YtecjegjnnahddaaGreat
open Go.RowKit
set_option linter.unusedVariables false
set_option linter.unusedSimpArgs false
set_option linter.unnecessarySimpa false
namespace Vw
open Shape

theorem Cq.at {c d : Cv} (h : Cq d c) {j : Nat} (hj : j < c.no) : ObE (d.ob j) (c.ob j) := h.ob.2 j (by rw [h.ob.1]; exact hj)
theorem Cq.vl {c d : Cv} (h : Cq d c) (a : Av) : vl d a = vl c a := by
  unfold Vw.vl
  rw [h.ph, h.co, h.ro, h.ac.1, h.rt.1, h.wk.1, h.ob.1, h.fr, h.gr, h.qu, h.cn.1, h.cn.2.1, h.cn.2.2.1, h.cn.2.2.2]
theorem Cq.shows {c d : Cv} (h : Cq d c) {w : World} {a : Av} (hs : Shows w d a) : Shows w c a := by
  refine ⟨?_, fun j hj => ?_, ?_, fun j hj => ?_, ?_, ?_, ?_⟩
  · intro j hj
    obtain ⟨b, off, e, hb, hc⟩ := hs.ac j (by rw [h.ac.1]; exact hj)
    exact ⟨b, off, e, hb, by rw [hc, h.ac.2 j (by rw [h.ac.1]; exact hj)]⟩
  · have hj' : j < d.nr := by rw [h.rt.1]; exact hj
    obtain ⟨b, off, ai, ci, e, hb, hc, hss⟩ := hs.rt j hj'
    have e1 := h.rt.2 j hj'
    refine ⟨b, off, ai, ci, e, hb, by rw [hc, e1.1], fun i hi => ?_⟩
    obtain ⟨b2, o2, e2, hb2, hc2⟩ := hss i (by rw [e1.1]; exact hi)
    exact ⟨b2, o2, e2, hb2, by rw [hc2, e1.2 i (by rw [e1.1]; exact hi)]⟩
  · intro j hj
    obtain ⟨b, off, e, hb, hc⟩ := hs.wk j (by rw [h.wk.1]; exact hj)
    exact ⟨b, off, e, hb, by rw [hc, h.wk.2 j (by rw [h.wk.1]; exact hj)]⟩
  · have hj' : j < d.no := by rw [h.ob.1]; exact hj
    obtain ⟨b, off, ai, ci, e, hb, hc, hss⟩ := hs.ob j hj'
    obtain ⟨e1, e2, e3, e4, e5, e6, e7, e8, e9, e10⟩ := h.at hj
    refine ⟨b, off, ai, ci, e, hb, fun q hq => ?_, fun i hi => ?_⟩
    · rw [hc q hq, e9]
      match q, hq with
      | 0, _ => simp only [Ob.cell, e1]
      | 1, _ => simp only [Ob.cell, e2]
      | 2, _ => simp only [Ob.cell, e3]
      | 3, _ => simp only [Ob.cell, e4]
      | 4, _ => simp only [Ob.cell, e5]
      | 5, _ => simp only [Ob.cell, e6]
      | 6, _ => simp only [Ob.cell, e7]
      | 7, _ => simp only [Ob.cell, e8]
      | 8, _ => simp only [Ob.cell]
    · obtain ⟨b2, o2, e2', hb2, hc2⟩ := hss i (by rw [e9]; exact hi)
      exact ⟨b2, o2, e2', hb2, by rw [hc2, e10 i (by rw [e9]; exact hi)]⟩
  · rw [← h.fr]; exact hs.fr
  · rw [← h.gr]; exact hs.gr
  · rw [← h.qu]; exact hs.qu
theorem Cq.good {c d : Cv} (h : Cq d c) {u : Int} (hg : good c u) : good d u := by
  obtain ⟨h1, h2, h3, h4⟩ := hg
  have e := h.at (j := (u % 4294967296).toNat - 1) (by omega)
  exact ⟨h1, by rw [h.ob.1]; exact h2, by rw [e.1]; exact h3, by rw [e.2.2.2.2.2.1]; exact h4⟩
theorem Cq.obOk {c d : Cv} (h : Cq d c) {j : Nat} (hj : j < c.no) (ho : obOk c j) : obOk d j := by
  obtain ⟨e1, e2, e3, e4, e5, e6, e7, e8, e9, e10⟩ := h.at hj
  obtain ⟨h1, h2⟩ := ho
  unfold Vw.obOk
  rw [e1, e2, e6, h.fr, e9]
  exact ⟨h1, fun hu => ⟨(h2 hu).1, fun q hq => by rw [e10 q (by rw [e9]; exact hq)]; exact (h2 hu).2 q hq⟩⟩
theorem Cq.ha {c d : Cv} (h : Cq d c) (ho : HaOk c) : HaOk d := by
  refine ⟨fun i hi => ?_, fun j hj i hi => ?_, fun j hj hu i hi => ?_⟩
  · rw [h.wk.2 i hi]
    exact fun hn => h.good (ho.wk i (by rw [← h.wk.1]; exact hi) hn)
  · have e := h.rt.2 j hj
    rw [e.2 i hi]
    exact fun hn => h.good (ho.rt j (by rw [← h.rt.1]; exact hj) i (by rw [← e.1]; exact hi) hn)
  · have hj' : j < c.no := by rw [← h.ob.1]; exact hj
    obtain ⟨e1, e2, e3, e4, e5, e6, e7, e8, e9, e10⟩ := h.at hj'
    rw [e10 i hi]
    exact fun hn => h.good (ho.ob j hj' (by rw [← e1]; exact hu) i (by rw [← e9]; exact hi) hn)
section
variable {x : Sh} {f : Nat → Int} (H : x.Ok) (hf : ∀ i, i < size x → 0 ≤ f i ∧ f i < 18446744073709551616)
include H hf
theorem sound_again (h : Sound x f) : Sound x (lwF x (cv x f)) := by
  have Q := cv_again H hf
  have K := cv_ok H hf
  obtain ⟨h1, ⟨h2, h3, h4⟩, h5, h6, h7, h8⟩ := h
  refine ⟨by rw [Q.ph]; exact h1, ⟨(list_again H hf 1 1 (.inl rfl) rfl).2 h2, (list_again H hf 2 1 (.inl rfl) rfl).2 h3, (list_again H hf 3 2 (.inr rfl) rfl).2 h4⟩, by rw [Q.gr]; exact h5, fun j hj => ?_, fun i hi => ?_, Q.ha h8⟩
  · exact Q.obOk (by rw [← Q.ob.1]; exact hj) (h6 j (by rw [← Q.ob.1]; exact hj))
  · rw [Q.qu] at hi
    have hr := K.qr i hi
    obtain ⟨e1, e2, e3, e4, -⟩ := Q.at (j := i.toNat - 1) (by omega)
    obtain ⟨q1, q2, q3⟩ := h7 i hi
    exact ⟨by rw [e1]; exact q1, by rw [e3]; exact q2, by rw [e4]; exact q3⟩
theorem bnd_cv : Bnd (cv x f) := by
  have K := cv_ok H hf
  have hl := lay_out x
  have hz := (sizes H).2.2.2.2
  have h0 := hf 0 (by omega)
  refine ⟨?_, fun i hi => hf (4 + i) (by omega), fun i hi => hf (8 + i) ?_, K.rt, K.wk, fun j hj => ⟨?_, ?_, ?_, K.sl j hj⟩⟩
  · show 0 ≤ f 0 / 256
    omega
  · have : i < x.h := hi
    omega
  all_goals
    have hj : j < x.o := hj
    have h1 : (j + 1) * ow x ≤ x.o * ow x := Nat.mul_le_mul_right _ hj
    rw [Nat.succ_mul] at h1
    have h2 : pO x j = bO x + j * ow x := rfl
  · have := hf (pO x j) (by omega)
    show 0 ≤ f (pO x j) / 4294967296
    omega
  · exact hf (pO x j + 1) (by omega)
  · exact hf (pO x j + 2) (by omega)
end
end Vw
end Go.Proofs.YtecjegjnnahddaaGreat

/-
  View: ViewBack: small things of the walk
-/
namespace Go.Proofs.YtecjegjnnahddaaGreat
open Go.RowKit
set_option linter.unusedVariables false
set_option linter.unusedSimpArgs false
set_option maxRecDepth 20000
namespace Vw
open Shape
theorem vrow (w : World) (c : Cv) (a : Av) : (w.alloc (.cells #[.int .i64 c.ph, .int .i64 c.co, .int .u64 c.ro, .slice a.aa c.na a.ca, .slice a.ra c.nr a.cr, .slice a.wa c.nw a.cw, .slice a.oa c.no a.cb, .slice a.fa c.fr.length a.cf, .slice a.ga c.gr.length a.cg, .slice a.qa c.qu.length a.cq, .int .u64 (c.cn 0), .int .u64 (c.cn 1), .int .u64 (c.cn 2), .int .u64 (c.cn 3)] 31)).rowIs w.heap.size 31 14 (lrow [.int .i64 c.ph, .int .i64 c.co, .int .u64 c.ro, .slice a.aa c.na a.ca, .slice a.ra c.nr a.cr, .slice a.wa c.nw a.cw, .slice a.oa c.no a.cb, .slice a.fa c.fr.length a.cf, .slice a.ga c.gr.length a.cg, .slice a.qa c.qu.length a.cq, .int .u64 (c.cn 0), .int .u64 (c.cn 1), .int .u64 (c.cn 2), .int .u64 (c.cn 3)]) := rowL_alloc w [.int .i64 c.ph, .int .i64 c.co, .int .u64 c.ro, .slice a.aa c.na a.ca, .slice a.ra c.nr a.cr, .slice a.wa c.nw a.cw, .slice a.oa c.no a.cb, .slice a.fa c.fr.length a.cf, .slice a.ga c.gr.length a.cg, .slice a.qa c.qu.length a.cq, .int .u64 (c.cn 0), .int .u64 (c.cn 1), .int .u64 (c.cn 2), .int .u64 (c.cn 3)] _ rfl
theorem _root_.Or.resolve_left' {A B C D : Prop} {α β : Type} {Q1 Q2 Q3 Q4 : α → β → Prop} (h : (A ∧ ¬ (B ∧ C ∧ D)) ∨ (∃ g cp, Q1 g cp ∧ Q2 g cp ∧ Q3 g cp ∧ Q4 g cp ∧ B ∧ C ∧ D)) (hb : B) (hc : C) (hd : D) : ∃ g cp, Q1 g cp ∧ Q2 g cp ∧ Q3 g cp ∧ Q4 g cp := by
  rcases h with ⟨_, h⟩ | ⟨g, cp, h1, h2, h3, h4, _⟩
  · exact absurd ⟨hb, hc, hd⟩ h
  · exact ⟨g, cp, h1, h2, h3, h4⟩
theorem _root_.Or.resolve_right' {A B C D : Prop} {α β : Type} {Q1 Q2 Q3 Q4 : α → β → Prop} (h : (A ∧ ¬ (B ∧ C ∧ D)) ∨ (∃ g cp, Q1 g cp ∧ Q2 g cp ∧ Q3 g cp ∧ Q4 g cp ∧ B ∧ C ∧ D)) (hn : ¬ (B ∧ C ∧ D)) : A := by
  rcases h with ⟨h, _⟩ | ⟨g, cp, h1, h2, h3, h4, h5⟩
  · exact h
  · exact absurd h5 hn
set_option maxHeartbeats 2000000 in
theorem check_er {s0 s1 s2 s3 s4 s5 er : Int} {ao : Option Addr} {n cap : Nat} {w : World} (MO : Hid (∀ w1, Calls Tryz.prog 28 #[.agg #[.int .i64 s0, .int .i64 s1, .int .i64 s2, .int .i64 s3, .int .i64 s4, .int .i64 s5], .slice ao n cap] w1 fun e w' => e = .returned (.tuple #[.agg #[.int .i64 0, .int .i64 0, .int .i64 0, .int .i64 0, .int .i64 0, .int .i64 0, .slice none 0 0], .int .i64 er]) ∧ Below w1.heap.size w1 w')) (he : (er != 0) = true) : Calls Tryz.prog 12 #[.agg #[.int .i64 s0, .int .i64 s1, .int .i64 s2, .int .i64 s3, .int .i64 s4, .int .i64 s5], .slice ao n cap] w fun e w' => e = .returned (.int .i64 er) ∧ Below w.heap.size w w' := by
  obtain ⟨W0, hW0, B0, K⟩ := box w s0 s1 s2 s3 s4 s5
  have HB := hide B0
  obtain ⟨-, l0, x0, x1, x2, x3, x4, x5⟩ := K.out W0 (Below.refl _ _)
  clear B0
  go_enter Tryz.func12, Tryz.ntmps12
  go_wp2_with (go_at_call 28; refine (MO.out _).mono ?_; rintro e w2 ⟨rfl, hb2⟩; have HB2 := hide (HB.out.trans (hb2.mono HB.out.size)); clear hb2)
  go_ret
  exact ⟨rfl, HB2.out.alloc HB2.out.size _⟩
theorem nats_of {s0 s1 s2 s3 s4 : Int} (H : R5 s0 s1 s2 s3 s4) : ∃ o s h r k : Nat, s0 = o ∧ s1 = s ∧ s2 = h ∧ s3 = r ∧ s4 = k ∧ (⟨o, s, h, r, k⟩ : Sh).Ok := by
  obtain ⟨⟨a1, a2⟩, ⟨b1, b2⟩, ⟨c1, c2⟩, ⟨d1, d2⟩, ⟨e1, e2⟩⟩ := H
  exact ⟨s0.toNat, s1.toNat, s2.toNat, s3.toNat, s4.toNat, by omega, by omega, by omega, by omega, by omega, ⟨by simp only; omega, by simp only; omega, by simp only; omega, by simp only; omega, by simp only; omega, by simp only; omega, by simp only; omega, by simp only; omega⟩⟩
theorem Cv.Ok.congr {c d : Cv} (h : d.Ok) (q : Cq d c) : c.Ok := by
  have en := q.wk.1
  have er := q.rt.1
  have eo := q.ob.1
  refine ⟨fun i hi => ?_, fun j hj i hi => ?_, fun j hj i hi => ?_, by rw [← en]; exact h.nw, by rw [← er]; exact h.nr, fun j hj => ?_, by rw [← eo]; exact h.no, fun j hj => ?_, by rw [← q.fr]; exact h.fr, by rw [← q.gr]; exact h.gr, by rw [← q.qu]; exact h.qu, fun i hi => by rw [← eo]; exact h.qr i (by rw [q.qu]; exact hi)⟩
  · rw [← q.wk.2 i (by omega)]; exact h.wk i (by omega)
  · have e := q.rt.2 j (by omega)
    rw [← e.2 i (by omega)]; exact h.rt j (by omega) i (by omega)
  · obtain ⟨-, -, -, -, -, -, -, -, e9, e10⟩ := q.ob.2 j (by omega)
    rw [← e10 i (by omega)]; exact h.sl j (by omega) i (by omega)
  · have e := q.rt.2 j (by omega)
    rw [← e.1]; exact h.rn j (by omega)
  · obtain ⟨-, -, -, -, -, -, -, -, e9, -⟩ := q.ob.2 j (by omega)
    rw [← e9]; exact h.ns j (by omega)
end Vw
end Go.Proofs.YtecjegjnnahddaaGreat

/-
  View: ViewLays: the law, of any shape and any view
-/
namespace Go.Proofs.YtecjegjnnahddaaGreat
open Go.RowKit
set_option linter.unusedVariables false
set_option linter.unusedSimpArgs false
set_option linter.unnecessarySimpa false
set_option maxRecDepth 20000
namespace Vw
open Shape
set_option maxHeartbeats 4000000 in
theorem rlay_bad {w : World} {s0 s1 s2 s3 s4 s5 : Int} {c : Cv} {av : Av} (H : ¬ R5 s0 s1 s2 s3 s4) :
    Calls Tryz.prog 6 #[.agg #[.int .i64 s0, .int .i64 s1, .int .i64 s2, .int .i64 s3, .int .i64 s4, .int .i64 s5], vl c av] w fun e w' => e = .returned (.tuple #[.slice none 0 0, .int .i64 120]) ∧ Below w.heap.size w w' := by
  have CH := hide (fun w1 => rcheck_bad (s5 := s5) H w1)
  clear H
  obtain ⟨W0, hW0, B0, K⟩ := box w s0 s1 s2 s3 s4 s5
  have HB := hide B0
  have l0 : w.heap.size < W0.heap.size := (K.out W0 (Below.refl _ _)).2.1
  obtain ⟨W1, hW1, B1, R1⟩ := vbox W0 c av
  have B01 := hide B1
  have HW1 := hide (HB.out.trans (B01.out.mono HB.out.size))
  obtain ⟨-, -, x0, x1, x2, x3, x4, x5⟩ := K.out _ B1
  clear B0 B1 R1
  simp only [vl]
  go_enter Tryz.func6, Tryz.ntmps6
  go_wp2_with (go_at_call 15; refine (CH.out _).mono ?_; rintro e w2 ⟨rfl, hb⟩; have HB2 := hide hb; clear hb)
  exact bodyPost_ret (results_tmp2 (by rfl) _ _ _) rfl ⟨rfl, HW1.out.trans (HB2.out.mono HW1.out.size)⟩
theorem lays_all {s0 s1 s2 s3 s4 s5 : Int} {c : Cv} {av : Av} {w : World} (hS : Shows w c av) (hN : Nv w c av) (hW : Wt c) (hB : Bnd c) :
    Calls Tryz.prog 3 #[.agg #[.int .i64 s0, .int .i64 s1, .int .i64 s2, .int .i64 s3, .int .i64 s4, .int .i64 s5], vl c av] w fun e w' => e = .returned (.bool true) ∧ Below w.heap.size w w' := by
  by_cases H : R5 s0 s1 s2 s3 s4
  · obtain ⟨o, s, h, r, k, rfl, rfl, rfl, rfl, rfl, H'⟩ := nats_of H
    have hz6 : size ⟨o, s, h, r, k⟩ ≤ 600 := (sizes H').2.2.2.2
    by_cases P : c.nr = h ∧ c.no = o ∧ Cq (cv ⟨o, s, h, r, k⟩ (lwF ⟨o, s, h, r, k⟩ c)) c
    · refine lays_walk (n := size ⟨o, s, h, r, k⟩) (F := lwF ⟨o, s, h, r, k⟩ c) (er := 0) hS hN hW hz6 (fun w1 hb => (rlay_ok (s5 := s5) H' rfl (hS.below hb) (hN.below hS hb) hB hW.len).mono ?_) (fun w1 a' h1 => (vlay_ok (s5 := s5) H' rfl h1 hB hW.len).mono ?_)
      · rintro e w' ⟨⟨_, hn⟩ | ⟨g, cap, rfl, hc, hg, ho, _⟩, hb2⟩
        · exact absurd P hn
        · exact ⟨⟨_, _, rfl, hide (owns_sees ho.out)⟩, hb2⟩
      · rintro e w' ⟨⟨_, hn⟩ | ⟨g, cap, rfl, hc, hg, ho, _⟩, hb2⟩
        · exact absurd P hn
        · exact ⟨⟨_, _, rfl, hide (.inr ⟨g, rfl, hc, hg, ho.out⟩)⟩, hb2⟩
    · refine lays_walk (n := 0) (F := fun _ => 0) (er := 130) hS hN hW (by omega) (fun w1 hb => (rlay_ok (s5 := s5) H' rfl (hS.below hb) (hN.below hS hb) hB hW.len).mono ?_) (fun w1 a' h1 => (vlay_ok (s5 := s5) H' rfl h1 hB hW.len).mono ?_)
      · rintro e w' ⟨⟨rfl, _⟩ | ⟨g, cap, _, _, _, _, hp⟩, hb2⟩
        · exact ⟨⟨_, _, rfl, hide (fun j hj => absurd hj (by omega))⟩, hb2⟩
        · exact absurd hp P
      · rintro e w' ⟨⟨rfl, _⟩ | ⟨g, cap, _, _, _, _, hp⟩, hb2⟩
        · exact ⟨⟨_, _, rfl, hide (.inl ⟨rfl, rfl, rfl⟩)⟩, hb2⟩
        · exact absurd hp P
  · refine lays_walk (n := 0) (F := fun _ => 0) (er := 120) hS hN hW (by omega) (fun w1 hb => (rlay_bad (s5 := s5) H).mono ?_) (fun w1 a' h1 => (vlay_bad (s5 := s5) H).mono ?_)
    · rintro e w' ⟨rfl, hb2⟩
      exact ⟨⟨_, _, rfl, hide (fun j hj => absurd hj (by omega))⟩, hb2⟩
    · rintro e w' ⟨rfl, hb2⟩
      exact ⟨⟨_, _, rfl, hide (.inl ⟨rfl, rfl, rfl⟩)⟩, hb2⟩
end Vw
end Go.Proofs.YtecjegjnnahddaaGreat

/-
  View: a view handed in, opened: what it shows, what it weighs; its numbers are words; nil lists have no room
-/
namespace Go.Proofs.YtecjegjnnahddaaGreat
open Go.ChangeShapes Go.WideShapes Go.ChangeAt Go.RowKit Go.Deep
set_option linter.unusedVariables false
set_option linter.unusedSimpArgs false
set_option maxRecDepth 100000
namespace Vw
namespace Tw
theorem nc_u : Tryz.prog.cellsOf 24 = 1 := by kernel_rfl
theorem nc_i : Tryz.prog.cellsOf 3 = 1 := by kernel_rfl
theorem nc_b : Tryz.prog.cellsOf 4 = 1 := by kernel_rfl
theorem nc_su : Tryz.prog.cellsOf 25 = 1 := by kernel_rfl
theorem nc_ssu : Tryz.prog.cellsOf 26 = 1 := by kernel_rfl
theorem nc_so : Tryz.prog.cellsOf 27 = 1 := by kernel_rfl
theorem nc_si : Tryz.prog.cellsOf 28 = 1 := by kernel_rfl
theorem nc_a4 : Tryz.prog.cellsOf 29 = 4 := by kernel_rfl
theorem nc_o : Tryz.prog.cellsOf 46 = 9 := by kernel_rfl
theorem nc_v : Tryz.prog.cellsOf 31 = 14 := by kernel_rfl
theorem by_u : Tryz.prog.bytesOf 24 = 8 := by kernel_rfl
theorem by_i : Tryz.prog.bytesOf 3 = 8 := by kernel_rfl
theorem by_su : Tryz.prog.bytesOf 25 = 24 := by kernel_rfl
theorem by_o : Tryz.prog.bytesOf 46 = 64 := by kernel_rfl
section
variable {H : Type}
theorem we_all {e : TypeId} : ∀ {l : List (DataW H)} {d : DataW H}, d ∈ l → ∀ q ∈ d.weights Tryz.prog e, q ∈ DataW.weightsAll Tryz.prog e l
  | _ :: _, _, .head _, q, hq => by rw [DataW.weightsAll]; exact List.mem_append_left _ hq
  | _ :: _, _, .tail _ h, q, hq => by rw [DataW.weightsAll]; exact List.mem_append_right _ (we_all h q hq)
theorem we_slice {t e : TypeId} (ht : Tryz.prog.underlying t = some (.slice e)) (a b : List (DataW H)) : (DataW.slice a b).weights Tryz.prog t = (a.length + b.length) * Tryz.prog.bytesOf e :: (DataW.weightsAll Tryz.prog e a ++ DataW.weightsAll Tryz.prog e b) := by
  simp [DataW.weights, ht]
end
abbrev fn (l : List Int) : Nat → Int := fun i => l.getD i 0
abbrev Bw (n : Nat) (f : Nat → Int) : Prop := ∀ i, i < n → 0 ≤ f i ∧ f i < 18446744073709551616

section
variable {H : Type} {enc : TypeId × Value → H} {W : World} {fuel : Nat} {cs : List Value} {x : DataW H × List MemPlace}
theorem tr_words (h : DataW.trod enc Tryz.prog W 0 (fun _ => true) true fuel 25 cs = some x) : ∃ (ao : Option Addr) (n : Nat) (f : Nat → Int) (cap : Nat), cs = [.slice ao n cap] ∧ Sees W W.heap.size ao n f ∧ Bw n f ∧ n ≤ 9223372036854775807 ∧ (ao = none → cap = 0) ∧ (∀ B, (∀ q ∈ x.1.weights Tryz.prog 25, q ≤ B) → n * 8 ≤ B) := by
  have lt8 : ∀ y ∈ x.2, y.block < W.heap.size := DataW.trod_lt fuel _ _ _ h
  rcases open_ints Tryz.underlying25 Tryz.underlying24 nc_u h with ⟨hcs, hx⟩ | ⟨a, len, cap, zs, hcs, _, hlc, hm, hz, hx, hcell, hwz⟩
  · subst hcs hx
    exact ⟨none, 0, fun _ => 0, 0, rfl, fun j hj => by omega, fun u hu => by omega, by omega, fun _ => rfl, fun B _ => by omega⟩
  · simp at hz
    subst hcs hx
    unfold maxLen at hm
    refine ⟨some a, len, fn zs, cap, rfl, fun j hj => ?_, fun u hu => ?_, by omega, (fun e => by cases e), fun B hB => ?_⟩
    · obtain ⟨b, off, rfl, hc⟩ := ints_at hcell (by omega)
      refine ⟨b, off, rfl, ?_, ?_⟩
      · exact lt8 (MemPlace.cell b off) (by simp only [MemPlace.row]; exact List.mem_map.2 ⟨0, List.mem_range.2 (by omega), rfl⟩)
      · rw [hc j (by omega)]
    · have hm : fn zs u ∈ zs := by
        have : u < zs.length := by omega
        simp [fn, List.getD, this]
      have := bounds_u64 (hwz _ hm)
      omega
    · have := hB ((len + (zs.length - len)) * Tryz.prog.bytesOf 24) (by rw [we_slice Tryz.underlying25]; simp [lits, show min len zs.length = len by omega])
      rw [by_u] at this
      have h2 : len * 8 ≤ (len + (zs.length - len)) * 8 := Nat.mul_le_mul_right _ (by omega)
      omega
theorem tr_nums (h : DataW.trod enc Tryz.prog W 0 (fun _ => true) true fuel 28 cs = some x) : ∃ (ao : Option Addr) (l : List Int) (cap : Nat), cs = [.slice ao l.length cap] ∧ SeesN W ao l ∧ l.length ≤ 9223372036854775807 ∧ (ao = none → cap = 0) ∧ (∀ B, (∀ q ∈ x.1.weights Tryz.prog 28, q ≤ B) → l.length * 8 ≤ B) := by
  have lt8 : ∀ y ∈ x.2, y.block < W.heap.size := DataW.trod_lt fuel _ _ _ h
  rcases open_ints Tryz.underlying28 Tryz.underlying3 nc_i h with ⟨hcs, hx⟩ | ⟨a, len, cap, zs, hcs, _, hlc, hm, hz, hx, hcell, hwz⟩
  · subst hcs hx
    exact ⟨none, [], 0, rfl, fun j c hj => by simp at hj, by simp, fun _ => rfl, fun B _ => by simp⟩
  · simp at hz
    subst hcs hx
    unfold maxLen at hm
    have hl : (zs.take len).length = len := by simp; omega
    refine ⟨some a, zs.take len, cap, by rw [hl], fun j c hj => ?_, by omega, (fun e => by cases e), fun B hB => ?_⟩
    rotate_left
    · rw [hl]
      have := hB ((len + (zs.length - len)) * Tryz.prog.bytesOf 3) (by rw [we_slice Tryz.underlying28]; simp [lits, show min len zs.length = len by omega])
      rw [by_i] at this
      have h2 : len * 8 ≤ (len + (zs.length - len)) * 8 := Nat.mul_le_mul_right _ (by omega)
      omega
    have hj' : j < len := by have := (List.getElem?_eq_some_iff.1 hj).1; omega
    obtain ⟨b, off, rfl, hc⟩ := ints_at hcell (by omega)
    refine ⟨b, off, rfl, ?_, ?_⟩
    · exact lt8 (MemPlace.cell b off) (by simp only [MemPlace.row]; exact List.mem_map.2 ⟨0, List.mem_range.2 (by omega), rfl⟩)
    · rw [hc j (by omega)]
      rw [List.getElem?_take, if_pos hj'] at hj
      simp [List.getD, hj]
theorem list9 {α : Type} {l : List α} (h : l.length = 9) : ∃ a b c d e f g i j, l = [a, b, c, d, e, f, g, i, j] := by
  match l, h with
  | [a, b, c, d, e, f, g, i, j], _ => exact ⟨a, b, c, d, e, f, g, i, j, rfl⟩
theorem list11 {α : Type} {l : List α} (h : l.length = 11) : ∃ a b c d e f g i j k m, l = [a, b, c, d, e, f, g, i, j, k, m] := by
  match l, h with
  | [a, b, c, d, e, f, g, i, j, k, m], _ => exact ⟨a, b, c, d, e, f, g, i, j, k, m, rfl⟩
theorem list14 {α : Type} {l : List α} (h : l.length = 14) : ∃ a b c d e f g i j k m n o p, l = [a, b, c, d, e, f, g, i, j, k, m, n, o, p] := by
  match l, h with
  | [a, b, c, d, e, f, g, i, j, k, m, n, o, p], _ => exact ⟨a, b, c, d, e, f, g, i, j, k, m, n, o, p, rfl⟩
structure Wo (o : Ob) : Prop where
  ge : 0 ≤ o.ge
  lk : 0 ≤ o.lk ∧ o.lk < 18446744073709551616
  nx : 0 ≤ o.nx ∧ o.nx < 18446744073709551616
  sl : Bw o.ns o.sl
  ns : o.ns ≤ 9223372036854775807
set_option maxRecDepth 4000 in
theorem tr_obj (hl : cs.length = 9) (h : DataW.trod enc Tryz.prog W 0 (fun _ => true) true fuel 46 cs = some x) : ∃ (o : Ob) (ai : Option Addr) (ci : Nat), cs = o.cells (.slice ai o.ns ci) ∧ Sees W W.heap.size ai o.ns o.sl ∧ Wo o ∧ (ai = none → ci = 0) ∧ (∀ B, (∀ q ∈ x.1.weights Tryz.prog 46, q ≤ B) → o.ns * 8 ≤ B) := by
  obtain ⟨c0, c1, c2, c3, c4, c5, c6, c7, c8, rfl⟩ := list9 hl
  obtain ⟨xs, m, _, hx, _, hl, hel⟩ := DataW.trod_struct Tryz.underlying46 h
  obtain ⟨y0, y1, y2, y3, y4, y5, y6, y7, y8, rfl⟩ := list9 hl
  have q0 := hel 0 _ rfl
  have q1 := hel 1 _ rfl
  have q2 := hel 2 _ rfl
  have q3 := hel 3 _ rfl
  have q4 := hel 4 _ rfl
  have q5 := hel 5 _ rfl
  have q6 := hel 6 _ rfl
  have q7 := hel 7 _ rfl
  have q8 := hel 8 _ rfl
  simp [nc_b, nc_i, nc_u, nc_su, Value.cells] at q0 q1 q2 q3 q4 q5 q6 q7 q8
  obtain ⟨us, e0, _⟩ := DataW.trod_bool Tryz.underlying4 q0
  obtain ⟨li, e1, _⟩ := DataW.trod_bool Tryz.underlying4 q1
  obtain ⟨fi, e2, _⟩ := DataW.trod_bool Tryz.underlying4 q2
  obtain ⟨ta, e3, _⟩ := DataW.trod_bool Tryz.underlying4 q3
  obtain ⟨ag, e4, _, b4⟩ := DataW.trod_int Tryz.underlying3 q4
  obtain ⟨ge, e5, _, b5⟩ := DataW.trod_int Tryz.underlying24 q5
  obtain ⟨lk, e6, _, b6⟩ := DataW.trod_int Tryz.underlying24 q6
  obtain ⟨nx, e7, _, b7⟩ := DataW.trod_int Tryz.underlying24 q7
  simp at e0 e1 e2 e3 e4 e5 e6 e7
  subst e0 e1 e2 e3 e4 e5 e6 e7
  obtain ⟨ao, n, f, cap, e8, hs, hw, hn, hnil, hwt⟩ := tr_words q8
  simp at e8
  subst e8
  have h5 := bounds_u64 b5
  have h6 := bounds_u64 b6
  have h7 := bounds_u64 b7
  exact ⟨⟨us, li, fi, ta, ag, ge, lk, nx, n, f⟩, ao, cap, rfl, hs, ⟨by simp only; omega, by simp only; omega, by simp only; omega, hw, hn⟩, hnil, fun B hB => hwt B (fun q hq => hB q (by rw [hx]; simp only [List.map_cons, List.map_nil, DataW.weights, Tryz.underlying46, DataW.weightsEach]; simp [hq]))⟩
theorem tr_objs (h : DataW.trod enc Tryz.prog W 0 (fun _ => true) true fuel 27 cs = some x) : ∃ (oa : Option Addr) (n : Nat) (F : Nat → Ob) (cb : Nat), cs = [.slice oa n cb] ∧ (∀ j, j < n → ∃ b off ai ci, oa = some ⟨b, off, none⟩ ∧ b < W.heap.size ∧ (∀ q, q < 9 → W.cell? ⟨b, off + j * 9 + q, none⟩ = some ((F j).cell (.slice ai (F j).ns ci) q)) ∧ Sees W W.heap.size ai (F j).ns (F j).sl) ∧ (∀ j, j < n → Wo (F j)) ∧ n ≤ 9223372036854775807 ∧ (∀ j, j < n → ∀ b off ai ci, oa = some ⟨b, off, none⟩ → W.cell? ⟨b, off + j * 9 + 8, none⟩ = some (.slice ai (F j).ns ci) → ai = none → ci = 0) ∧ (∀ B, (∀ q ∈ x.1.weights Tryz.prog 27, q ≤ B) → n * 64 ≤ B ∧ ∀ j, j < n → (F j).ns * 8 ≤ B) := by
  have lt8 : ∀ y ∈ x.2, y.block < W.heap.size := DataW.trod_lt fuel _ _ _ h
  rcases open_slice Tryz.underlying27 h with ⟨hcs, hx⟩ | ⟨a, len, cap, m, fu, D, Pl, hcs, _, hlc, hm, hmm, hx, hel⟩
  · subst hcs hx
    exact ⟨none, 0, fun _ => ⟨false, false, false, false, 0, 0, 0, 0, 0, fun _ => 0⟩, 0, rfl, fun j hj => by omega, fun j hj => by omega, by omega, fun j hj => by omega, fun B _ => ⟨by omega, fun j hj => by omega⟩⟩
  · simp at hmm
    subst hcs hx hmm
    rw [nc_o] at hel lt8
    unfold maxLen at hm
    have each : ∀ i, i < m → ∃ s : Ob × Option Addr × Nat, (∀ j, j < 9 → W.cell? (a.add (i * 9 + j)) = some (s.1.cell (.slice s.2.1 s.1.ns s.2.2) j)) ∧ Sees W W.heap.size s.2.1 s.1.ns s.1.sl ∧ Wo s.1 ∧ (s.2.1 = none → s.2.2 = 0) ∧ (∀ B, (∀ q ∈ (D i).weights Tryz.prog 46, q ≤ B) → s.1.ns * 8 ≤ B) := by
      intro i hi
      obtain ⟨cs', h1, h2⟩ := hel i hi
      obtain ⟨_, hlen, hcell⟩ := World.cells?_some h1
      obtain ⟨o, ai, ci, rfl, k1, k2⟩ := tr_obj hlen h2
      refine ⟨(o, ai, ci), fun j hj => ?_, k1, k2⟩
      have e := hcell j (by omega)
      rw [add_add] at e
      rw [e]
      exact Ob.cells_get o _ hj
    have : Inhabited (Ob × Option Addr × Nat) := ⟨(⟨false, false, false, false, 0, 0, 0, 0, 0, fun _ => 0⟩, none, 0)⟩
    obtain ⟨q, hq⟩ := choose_lt each
    refine ⟨some a, len, fun i => (q i).1, m, rfl, ?_, fun j hj => (hq j (by omega)).2.2.1, by omega, ?_, ?_⟩
    rotate_left
    · intro j hj b off ai ci e hc hai
      cases e
      have h8 := (hq j (by omega)).1 8 (by decide)
      rw [Go.WideShapes.add_plain] at h8
      rw [show off + (j * 9 + 8) = off + j * 9 + 8 by omega, hc] at h8
      injection h8 with h8
      simp only [Ob.cell] at h8
      injection h8 with e1 _ e2
      rw [hai] at e1
      rw [e2]
      exact (hq j (by omega)).2.2.2.1 e1.symm
    · intro B hB
      rw [we_slice Tryz.underlying27] at hB
      refine ⟨?_, fun j hj => ?_⟩
      · have := hB ((len + (m - len)) * Tryz.prog.bytesOf 46) (by simp)
        rw [by_o] at this
        have h2 : len * 64 ≤ (len + (m - len)) * 64 := Nat.mul_le_mul_right _ (by omega)
        omega
      · exact (hq j (by omega)).2.2.2.2 B (fun q hq => hB q (List.mem_cons_of_mem _ (List.mem_append_left _ (we_all (List.mem_map.2 ⟨j, List.mem_range.2 hj, rfl⟩) q hq))))
    intro j hjl
    obtain ⟨b, off, spot⟩ := a
    have c0 := (hq 0 (by omega)).1 0 (by omega)
    have hspot : spot = none := by simpa [Addr.add] using World.cell?_spot c0
    subst hspot
    obtain ⟨k0, k1, _⟩ := hq j (by omega)
    refine ⟨b, off, (q j).2.1, (q j).2.2, rfl, ?_, fun i hi => ?_, k1⟩
    · exact lt8 (MemPlace.cell b off) (List.mem_append_left _ (by simp only [MemPlace.row]; exact List.mem_map.2 ⟨0, List.mem_range.2 (by omega), rfl⟩))
    · have e := k0 i hi
      rw [Go.WideShapes.add_plain] at e
      rw [Nat.add_assoc]
      exact e
theorem tr_lists (h : DataW.trod enc Tryz.prog W 0 (fun _ => true) true fuel 26 cs = some x) : ∃ (ra : Option Addr) (n : Nat) (N : Nat → Nat) (F : Nat → Nat → Int) (cr : Nat), cs = [.slice ra n cr] ∧ (∀ j, j < n → ∃ b off ai ci, ra = some ⟨b, off, none⟩ ∧ b < W.heap.size ∧ W.cell? ⟨b, off + j, none⟩ = some (.slice ai (N j) ci) ∧ Sees W W.heap.size ai (N j) (F j)) ∧ (∀ j, j < n → Bw (N j) (F j) ∧ N j ≤ 9223372036854775807) ∧ n ≤ 9223372036854775807 ∧ (∀ j, j < n → ∀ b off ai ci, ra = some ⟨b, off, none⟩ → W.cell? ⟨b, off + j, none⟩ = some (.slice ai (N j) ci) → ai = none → ci = 0) ∧ (∀ B, (∀ q ∈ x.1.weights Tryz.prog 26, q ≤ B) → n * 24 ≤ B ∧ ∀ j, j < n → N j * 8 ≤ B) := by
  have lt8 : ∀ y ∈ x.2, y.block < W.heap.size := DataW.trod_lt fuel _ _ _ h
  rcases open_slice Tryz.underlying26 h with ⟨hcs, hx⟩ | ⟨a, len, cap, m, fu, D, Pl, hcs, _, hlc, hm, hmm, hx, hel⟩
  · subst hcs hx
    exact ⟨none, 0, fun _ => 0, fun _ _ => 0, 0, rfl, fun j hj => by omega, fun j hj => by omega, by omega, fun j hj => by omega, fun B _ => ⟨by omega, fun j hj => by omega⟩⟩
  · simp at hmm
    subst hcs hx hmm
    rw [nc_su] at hel lt8
    unfold maxLen at hm
    have each : ∀ i, i < m → ∃ s : (Nat × (Nat → Int)) × Option Addr × Nat, W.cell? (a.add i) = some (.slice s.2.1 s.1.1 s.2.2) ∧ Sees W W.heap.size s.2.1 s.1.1 s.1.2 ∧ (Bw s.1.1 s.1.2 ∧ s.1.1 ≤ 9223372036854775807) ∧ (s.2.1 = none → s.2.2 = 0) ∧ (∀ B, (∀ q ∈ (D i).weights Tryz.prog 25, q ≤ B) → s.1.1 * 8 ≤ B) := by
      intro i hi
      obtain ⟨cs', h1, h2⟩ := hel i hi
      obtain ⟨_, hlen, hcell⟩ := World.cells?_some h1
      obtain ⟨ao, n, f, cap, rfl, k1, k2, k3, k4, k5⟩ := tr_words h2
      refine ⟨((n, f), ao, cap), ?_, k1, ⟨k2, k3⟩, k4, k5⟩
      have e := hcell 0 (by simp)
      rw [add_add] at e
      simpa using e
    have : Inhabited ((Nat × (Nat → Int)) × Option Addr × Nat) := ⟨((0, fun _ => 0), none, 0)⟩
    obtain ⟨q, hq⟩ := choose_lt each
    refine ⟨some a, len, fun i => (q i).1.1, fun i => (q i).1.2, m, rfl, ?_, fun j hj => (hq j (by omega)).2.2.1, by omega, ?_, ?_⟩
    rotate_left
    · intro j hj b off ai ci e hc hai
      cases e
      have h8 := (hq j (by omega)).1
      rw [Go.WideShapes.add_plain, hc] at h8
      injection h8 with h8
      injection h8 with e1 _ e2
      rw [hai] at e1
      rw [e2]
      exact (hq j (by omega)).2.2.2.1 e1.symm
    · intro B hB
      rw [we_slice Tryz.underlying26] at hB
      refine ⟨?_, fun j hj => ?_⟩
      · have := hB ((len + (m - len)) * Tryz.prog.bytesOf 25) (by simp)
        rw [by_su] at this
        have h2 : len * 24 ≤ (len + (m - len)) * 24 := Nat.mul_le_mul_right _ (by omega)
        omega
      · exact (hq j (by omega)).2.2.2.2 B (fun q hq => hB q (List.mem_cons_of_mem _ (List.mem_append_left _ (we_all (List.mem_map.2 ⟨j, List.mem_range.2 hj, rfl⟩) q hq))))
    intro j hjl
    obtain ⟨b, off, spot⟩ := a
    have c0 := (hq 0 (by omega)).1
    have hspot : spot = none := by simpa [Addr.add] using World.cell?_spot c0
    subst hspot
    obtain ⟨k0, k1, _⟩ := hq j (by omega)
    refine ⟨b, off, (q j).2.1, (q j).2.2, rfl, ?_, ?_, k1⟩
    · exact lt8 (MemPlace.cell b off) (List.mem_append_left _ (by simp only [MemPlace.row]; exact List.mem_map.2 ⟨0, List.mem_range.2 (by omega), rfl⟩))
    · rw [Go.WideShapes.add_plain] at k0
      exact k0
set_option maxRecDepth 4000 in
theorem tr_view (hl : cs.length = 14) (h : DataW.trod enc Tryz.prog W 0 (fun _ => true) true fuel 31 cs = some x) : ∃ (c : Cv) (a : Av), Value.agg cs.toArray = vl c a ∧ Shows W c a ∧ Bnd c ∧ Nv W c a ∧ ∀ B, B + 4096 ≤ 140737488355328 → (∀ q ∈ x.1.weights Tryz.prog 31, q ≤ B) → Wt c := by
  obtain ⟨c0, c1, c2, c3, c4, c5, c6, c7, c8, c9, c10, c11, c12, c13, rfl⟩ := list14 hl
  obtain ⟨xs, m, _, hx, _, hl, hel⟩ := DataW.trod_struct Tryz.underlying31 h
  obtain ⟨y0, y1, y2, y3, y4, y5, y6, y7, y8, y9, y10, rfl⟩ := list11 hl
  have q0 := hel 0 _ rfl
  have q1 := hel 1 _ rfl
  have q2 := hel 2 _ rfl
  have q3 := hel 3 _ rfl
  have q4 := hel 4 _ rfl
  have q5 := hel 5 _ rfl
  have q6 := hel 6 _ rfl
  have q7 := hel 7 _ rfl
  have q8 := hel 8 _ rfl
  have q9 := hel 9 _ rfl
  have q10 := hel 10 _ rfl
  simp [nc_i, nc_u, nc_su, nc_ssu, nc_so, nc_si, nc_a4, Value.cells] at q0 q1 q2 q3 q4 q5 q6 q7 q8 q9 q10
  obtain ⟨ph, e0, _, _⟩ := DataW.trod_int Tryz.underlying3 q0
  obtain ⟨co, e1, _, _⟩ := DataW.trod_int Tryz.underlying3 q1
  obtain ⟨ro, e2, _, r2⟩ := DataW.trod_int Tryz.underlying24 q2
  obtain ⟨aa, na, ac, ca, e3, h3, w3, n3, i3, t3⟩ := tr_words q3
  obtain ⟨ra, nr, rn, rt, cr, e4, h4, w4, n4, i4, t4⟩ := tr_lists q4
  obtain ⟨wa, nw, wk, cw, e5, h5, w5, n5, i5, t5⟩ := tr_words q5
  obtain ⟨oa, no, ob, cb, e6, h6, w6, n6, i6, t6⟩ := tr_objs q6
  obtain ⟨fa, lf, cf, e7, h7, n7, i7, t7⟩ := tr_nums q7
  obtain ⟨ga, lg, cg, e8, h8, n8, i8, t8⟩ := tr_nums q8
  obtain ⟨qa, lq, cq, e9, h9, n9, i9, t9⟩ := tr_nums q9
  obtain ⟨z0, z1, z2, z3, n', _, p0, p1, p2, p3⟩ := trod_array4 Tryz.underlying29 nc_u q10
  obtain ⟨k0, f0, _, b0⟩ := DataW.trod_int Tryz.underlying24 p0
  obtain ⟨k1, f1, _, b1⟩ := DataW.trod_int Tryz.underlying24 p1
  obtain ⟨k2, f2, _, b2⟩ := DataW.trod_int Tryz.underlying24 p2
  obtain ⟨k3, f3, _, b3⟩ := DataW.trod_int Tryz.underlying24 p3
  simp at e0 e1 e2 e3 e4 e5 e6 e7 e8 e9 f0 f1 f2 f3
  subst e0 e1 e2 e3 e4 e5 e6 e7 e8 e9 f0 f1 f2 f3
  have r2' := bounds_u64 r2
  have b0' := bounds_u64 b0
  have b1' := bounds_u64 b1
  have b2' := bounds_u64 b2
  have b3' := bounds_u64 b3
  refine ⟨⟨ph, co, ro, na, ac, nr, rn, rt, nw, wk, no, ob, lf, lg, lq, fun i => match i with | 0 => k0 | 1 => k1 | 2 => k2 | _ => k3⟩, ⟨aa, ca, ra, cr, wa, cw, oa, cb, fa, cf, ga, cg, qa, cq⟩, rfl, ⟨h3, h4, h5, h6, h7, h8, h9⟩, ⟨by simp only; omega, ?_, w3, fun j hj => (w4 j hj).1, w5, fun j hj => ⟨(w6 j hj).ge, (w6 j hj).lk, (w6 j hj).nx, (w6 j hj).sl⟩⟩, ⟨i3, i4, i5, i6, i7, i8, i9⟩, fun B hR hB => ?_⟩
  rotate_left
  · have hw : ∀ (L : List Nat), (∀ q ∈ L, q ∈ x.1.weights Tryz.prog 31) → ∀ q ∈ L, q ≤ B := fun L hL q hq => hB q (hL q hq)
    have key : ∀ (y : DataW H) (ty : TypeId), (∀ q ∈ y.weights Tryz.prog ty, q ∈ x.1.weights Tryz.prog 31) → ∀ q ∈ y.weights Tryz.prog ty, q ≤ B := fun y ty h q hq => hB q (h q hq)
    have wv : x.1.weights Tryz.prog 31 = DataW.weightsEach Tryz.prog [3, 3, 24, 25, 26, 25, 27, 28, 28, 28, 29] [y0.1, y1.1, y2.1, y3.1, y4.1, y5.1, y6.1, y7.1, y8.1, y9.1, y10.1] := by
      rw [hx]
      simp only [List.map_cons, List.map_nil, DataW.weights, Tryz.underlying31]
    rw [wv] at hB
    simp only [DataW.weightsEach] at hB
    have q3 := t3 B (fun q hq => hB q (by simp [hq]))
    have q4 := t4 B (fun q hq => hB q (by simp [hq]))
    have q5 := t5 B (fun q hq => hB q (by simp [hq]))
    have q6 := t6 B (fun q hq => hB q (by simp [hq]))
    have q7 := t7 B (fun q hq => hB q (by simp [hq]))
    have q8 := t8 B (fun q hq => hB q (by simp [hq]))
    have q9 := t9 B (fun q hq => hB q (by simp [hq]))
    exact ⟨by simp only; omega, by simp only; omega, fun j hj => by have := q4.2 j hj; simp only; omega, by simp only; omega, by simp only; omega, fun j hj => by have := q6.2 j hj; simp only; omega, by simp only; omega, by simp only; omega, by simp only; omega⟩
  intro i hi
  match i, hi with
  | 0, _ => simp only; omega
  | 1, _ => simp only; omega
  | 2, _ => simp only; omega
  | 3, _ => simp only; omega
end
end Tw
end Vw
end Go.Proofs.YtecjegjnnahddaaGreat
