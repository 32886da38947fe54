/-
  Lemmas: VwCe.
-/
import Derived.Test.YtecjegjnnahddaaTp26
import Derived.Test.YtecjegjnnahddaaTp27
/-
  View: ViewBack: small things of the walk
-/
namespace Go.Proofs.Ytecjegjnnahddaa
open Go.RowKit
set_option linter.unusedVariables false
set_option linter.unusedSimpArgs false
set_option maxRecDepth 20000
namespace Vw
open Shape
theorem vrow (w : World) (c : Cv) (a : Av) : (w.alloc (.cells #[.int .i64 c.ph, .int .i64 c.co, .int .u64 c.ro, .slice a.aa c.na a.ca, .slice a.ra c.nr a.cr, .slice a.wa c.nw a.cw, .slice a.oa c.no a.cb, .slice a.fa c.fr.length a.cf, .slice a.ga c.gr.length a.cg, .slice a.qa c.qu.length a.cq, .int .u64 (c.cn 0), .int .u64 (c.cn 1), .int .u64 (c.cn 2), .int .u64 (c.cn 3)] 33)).rowIs w.heap.size 33 14 (lrow [.int .i64 c.ph, .int .i64 c.co, .int .u64 c.ro, .slice a.aa c.na a.ca, .slice a.ra c.nr a.cr, .slice a.wa c.nw a.cw, .slice a.oa c.no a.cb, .slice a.fa c.fr.length a.cf, .slice a.ga c.gr.length a.cg, .slice a.qa c.qu.length a.cq, .int .u64 (c.cn 0), .int .u64 (c.cn 1), .int .u64 (c.cn 2), .int .u64 (c.cn 3)]) := rowL_alloc w [.int .i64 c.ph, .int .i64 c.co, .int .u64 c.ro, .slice a.aa c.na a.ca, .slice a.ra c.nr a.cr, .slice a.wa c.nw a.cw, .slice a.oa c.no a.cb, .slice a.fa c.fr.length a.cf, .slice a.ga c.gr.length a.cg, .slice a.qa c.qu.length a.cq, .int .u64 (c.cn 0), .int .u64 (c.cn 1), .int .u64 (c.cn 2), .int .u64 (c.cn 3)] _ rfl
theorem _root_.Or.resolve_left' {A B C D : Prop} {α β : Type} {Q1 Q2 Q3 Q4 : α → β → Prop} (h : (A ∧ ¬ (B ∧ C ∧ D)) ∨ (∃ g cp, Q1 g cp ∧ Q2 g cp ∧ Q3 g cp ∧ Q4 g cp ∧ B ∧ C ∧ D)) (hb : B) (hc : C) (hd : D) : ∃ g cp, Q1 g cp ∧ Q2 g cp ∧ Q3 g cp ∧ Q4 g cp := by
  rcases h with ⟨_, h⟩ | ⟨g, cp, h1, h2, h3, h4, _⟩
  · exact absurd ⟨hb, hc, hd⟩ h
  · exact ⟨g, cp, h1, h2, h3, h4⟩
theorem _root_.Or.resolve_right' {A B C D : Prop} {α β : Type} {Q1 Q2 Q3 Q4 : α → β → Prop} (h : (A ∧ ¬ (B ∧ C ∧ D)) ∨ (∃ g cp, Q1 g cp ∧ Q2 g cp ∧ Q3 g cp ∧ Q4 g cp ∧ B ∧ C ∧ D)) (hn : ¬ (B ∧ C ∧ D)) : A := by
  rcases h with ⟨h, _⟩ | ⟨g, cp, h1, h2, h3, h4, h5⟩
  · exact h
  · exact absurd h5 hn
set_option maxHeartbeats 2000000 in
theorem check_er {s0 s1 s2 s3 s4 s5 er : Int} {ao : Option Addr} {n cap : Nat} {w : World} (MO : Hid (∀ w1, Calls Try.prog 30 #[.agg #[.int .i64 s0, .int .i64 s1, .int .i64 s2, .int .i64 s3, .int .i64 s4, .int .i64 s5], .slice ao n cap] w1 fun e w' => e = .returned (.tuple #[.agg #[.int .i64 0, .int .i64 0, .int .i64 0, .int .i64 0, .int .i64 0, .int .i64 0, .slice none 0 0], .int .i64 er]) ∧ Below w1.heap.size w1 w')) (he : (er != 0) = true) : Calls Try.prog 11 #[.agg #[.int .i64 s0, .int .i64 s1, .int .i64 s2, .int .i64 s3, .int .i64 s4, .int .i64 s5], .slice ao n cap] w fun e w' => e = .returned (.int .i64 er) ∧ Below w.heap.size w w' := by
  obtain ⟨W0, hW0, B0, K⟩ := box w s0 s1 s2 s3 s4 s5
  have HB := hide B0
  obtain ⟨-, l0, x0, x1, x2, x3, x4, x5⟩ := K.out W0 (Below.refl _ _)
  clear B0
  go_enter Try.func11, Try.ntmps11
  go_wp2_with (go_at_call 30; refine (MO.out _).mono ?_; rintro e w2 ⟨rfl, hb2⟩; have HB2 := hide (HB.out.trans (hb2.mono HB.out.size)); clear hb2)
  go_ret
  exact ⟨rfl, HB2.out.alloc HB2.out.size _⟩
theorem nats_of {s0 s1 s2 s3 s4 : Int} (H : R5 s0 s1 s2 s3 s4) : ∃ o s h r k : Nat, s0 = o ∧ s1 = s ∧ s2 = h ∧ s3 = r ∧ s4 = k ∧ (⟨o, s, h, r, k⟩ : Sh).Ok := by
  obtain ⟨⟨a1, a2⟩, ⟨b1, b2⟩, ⟨c1, c2⟩, ⟨d1, d2⟩, ⟨e1, e2⟩⟩ := H
  exact ⟨s0.toNat, s1.toNat, s2.toNat, s3.toNat, s4.toNat, by omega, by omega, by omega, by omega, by omega, ⟨by simp only; omega, by simp only; omega, by simp only; omega, by simp only; omega, by simp only; omega, by simp only; omega, by simp only; omega, by simp only; omega⟩⟩
theorem Cv.Ok.congr {c d : Cv} (h : d.Ok) (q : Cq d c) : c.Ok := by
  have en := q.wk.1
  have er := q.rt.1
  have eo := q.ob.1
  refine ⟨fun i hi => ?_, fun j hj i hi => ?_, fun j hj i hi => ?_, by rw [← en]; exact h.nw, by rw [← er]; exact h.nr, fun j hj => ?_, by rw [← eo]; exact h.no, fun j hj => ?_, by rw [← q.fr]; exact h.fr, by rw [← q.gr]; exact h.gr, by rw [← q.qu]; exact h.qu, fun i hi => by rw [← eo]; exact h.qr i (by rw [q.qu]; exact hi)⟩
  · rw [← q.wk.2 i (by omega)]; exact h.wk i (by omega)
  · have e := q.rt.2 j (by omega)
    rw [← e.2 i (by omega)]; exact h.rt j (by omega) i (by omega)
  · obtain ⟨-, -, -, -, -, -, -, -, e9, e10⟩ := q.ob.2 j (by omega)
    rw [← e10 i (by omega)]; exact h.sl j (by omega) i (by omega)
  · have e := q.rt.2 j (by omega)
    rw [← e.1]; exact h.rn j (by omega)
  · obtain ⟨-, -, -, -, -, -, -, -, e9, -⟩ := q.ob.2 j (by omega)
    rw [← e9]; exact h.ns j (by omega)
end Vw
end Go.Proofs.Ytecjegjnnahddaa
