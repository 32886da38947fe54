/-
  Lemmas: VwRn.
-/
import Derived.Test.YtmikhglnomgbfabTv19
import Derived.Test.YtmikhglnomgbfabTv25
import Derived.Test.YtmikhglnomgbfabTv30
import Derived.Test.YtmikhglnomgbfabTv14
import Derived.Test.YtmikhglnomgbfabTv17
/-
  ViewRuns: a run's steps made again, at once or in two parts; the law's walk.
-/
namespace Go.Proofs.Ytmikhglnomgbfab
open Go.RowKit
set_option linter.unusedVariables false
set_option linter.unusedSimpArgs false
set_option linter.unnecessarySimpa false
set_option maxRecDepth 20000
namespace VRn
open Shape
def toSp (x : Stp) : Vw.Sp := ⟨x.hand, x.act, x.at_, x.had, x.put, x.ok⟩
theorem one_step (n : Nat) (f : Nat → Int) (q : Stp) : Vw.one n f (toSp (stepOf n f q)) = some (wordsOf n f q) := by
  by_cases h : 0 ≤ q.at_ ∧ q.at_ < n
  · have e : (stepOf n f q).at_ = q.at_ := by simp only [stepOf, if_pos h]
    have e2 : (stepOf n f q).had = f q.at_.toNat := by simp only [stepOf, if_pos h]
    simp only [Vw.one, toSp, e, e2, if_pos h, wordsOf]
    rfl
  · have e : stepOf n f q = ⟨q.hand, actOf q.act, q.at_, 0, 0, decide (actOf q.act ≠ 5)⟩ := by simp only [stepOf, if_neg h]
    rw [e]
    simp [Vw.one, toSp, wordsOf, if_neg h]
theorem rp_run {K : Kd} {P : Par} {f : Nat → Int} (m : Nat) :
    ∀ i, i ≤ (runSt P (st0 K P f) m).k → Vw.rp P.n (fun i => toSp ((runSt P (st0 K P f) m).s i)) f i = some (runSt P (st0 K P f) i).f := by
  intro i
  induction i with
  | zero => intro _; rfl
  | succ i ih =>
    intro hi
    obtain ⟨h1, ⟨h, h2, h3, h4, h5⟩, h6⟩ := hist P (st0 K P f) rfl m i (by omega)
    simp only [Vw.rp, ih (by omega), Option.bind_some]
    have e1 : (runSt P (st0 K P f) m).s i = stepOf P.n (runSt P (st0 K P f) i).f (K.req ((runSt P (st0 K P f) i).cur h)) := by
      rw [h6, h5]
      simp only [stepSt]
      rw [h1, upd_same]
    have e2 : (runSt P (st0 K P f) (i + 1)).f = wordsOf P.n (runSt P (st0 K P f) i).f (K.req ((runSt P (st0 K P f) i).cur h)) := by rw [h5]; rfl
    rw [e1, one_step, e2]
theorem rp_add (n : Nat) (a : Nat → Vw.Sp) (f : Nat → Int) (p : Nat) : ∀ q, Vw.rp n a f (p + q) = (Vw.rp n a f p).bind fun g => Vw.rp n (fun i => a (p + i)) g q := by
  intro q
  induction q with
  | zero => simp [Vw.rp]
  | succ q ih =>
    show (Vw.rp n a f (p + q)).bind _ = _
    rw [ih]
    simp only [Vw.rp]
    cases Vw.rp n a f p <;> rfl
theorem rd_run {K : Kd} {P : Par} {f : Nat → Int} (m : Nat) (hn : P.n ≤ 4096) (hk : (runSt P (st0 K P f) m).k ≤ 65536) :
    ∀ c, c ≤ (runSt P (st0 K P f) m).k → ∃ g, Vw.rd P.n (runSt P (st0 K P f) m).k (c : Int) (fun i => toSp ((runSt P (st0 K P f) m).s i)) f = (0, P.n, g) ∧
      Vw.rd P.n ((runSt P (st0 K P f) m).k - c) (((runSt P (st0 K P f) m).k - c : Nat) : Int) (fun i => toSp ((runSt P (st0 K P f) m).s (c + i))) g = (0, P.n, (runSt P (st0 K P f) m).f) ∧ (c = (runSt P (st0 K P f) m).k → g = (runSt P (st0 K P f) m).f) := by
  intro c hc
  have e1 := rp_run (K := K) (P := P) (f := f) m c hc
  have e2 := rp_run (K := K) (P := P) (f := f) m _ (Nat.le_refl _)
  rw [run_at_k P (st0 K P f) rfl m] at e2
  have e3 := rp_add P.n (fun i => toSp ((runSt P (st0 K P f) m).s i)) f c ((runSt P (st0 K P f) m).k - c)
  rw [show c + ((runSt P (st0 K P f) m).k - c) = (runSt P (st0 K P f) m).k by omega, e2, e1] at e3
  refine ⟨(runSt P (st0 K P f) c).f, ?_, ?_, ?_⟩
  · rw [Vw.rd3 (by omega) hc, e1]; rfl
  · rw [Vw.rd3 (by omega) (Nat.le_refl _)]
    simp only [Option.bind_some] at e3
    rw [← e3]; rfl
  · rintro rfl
    rw [run_at_k P (st0 K P f) rfl m]
theorem slice_l {sa : Option Addr} {ns cs : Nat} (q : Nat) (hq : q ≤ ns) (hc : ns ≤ cs) (hp : 0 < ns - q → ∃ b off, sa = some ⟨b, off, none⟩) : ∃ p, (∀ w, (Instr.slice 42 (.slice sa ns cs) (some (.int .i64 (q : Int))) none none).run Try.prog w = .ok (.slice p (ns - q) (cs - q)) w) ∧ (0 < ns - q → ∃ b off, sa = some ⟨b, off, none⟩ ∧ p = some ⟨b, off + q * 6, none⟩) := by
  refine ⟨if cs = q then sa else sa.map (·.add (q * 6)), fun w => ?_, fun h => ?_⟩
  · have hs : (sizeOf (Try.prog.elem 42)).run Try.prog w = .ok 6 w := by kernel_rfl
    rw [run_slice_l w 42 sa ns cs (by kernel_rfl) .i64 _ (by omega) (by omega), hs]
    simp only [Result.andThen, sliced]
    simp
  · obtain ⟨b, off, rfl⟩ := hp h
    rw [if_neg (by omega)]
    exact ⟨b, off, rfl, by simp [Go.WideShapes.add_plain]⟩
theorem cut_le (c : Int) (n : Nat) (hn : n ≤ 65536) (h1 : 0 ≤ c) (h2 : c ≤ 9223372036854775807) : ∃ q : Nat, c.tmod (wrap64 ((n : Int) + 1)) = (q : Int) ∧ q ≤ n := by
  have e : wrap64 ((n : Int) + 1) = (n : Int) + 1 := by unfold wrap64; omega
  rw [e, Int.tmod_eq_emod_of_nonneg h1]
  have a := Int.emod_nonneg c (show (n : Int) + 1 ≠ 0 by omega)
  have b := Int.emod_lt_of_pos c (show 0 < (n : Int) + 1 by omega)
  exact ⟨(c % ((n : Int) + 1)).toNat, by omega, by omega⟩
theorem wK_of {kk : Nat} (h : kk ≤ 65536) : wrap64 ((kk : Int) + 1) = (kk : Int) + 1 := by unfold wrap64; omega
theorem idx6 (off q j i : Nat) : off + (q + j) * 6 + i = off + q * 6 + j * 6 + i := by omega
theorem nK_of (kk : Nat) : ¬ (kk : Int) + 1 = 0 := by omega
theorem wS_of {kk q : Nat} (h : kk ≤ 65536) (hq : q ≤ kk) : wrap64 ((kk : Int) - (q : Int)) = ((kk - q : Nat) : Int) := by
  have e : ((kk - q : Nat) : Int) = (kk : Int) - (q : Int) := by omega
  rw [e]; unfold wrap64; omega
theorem wC1 {c : Int} (h : -9223372036854775808 ≤ c ∧ c ≤ 9223372036854775807) (hn : c < 0) : wrap64 (c + 1) = c + 1 := by unfold wrap64; omega
theorem wC2 {c : Int} (h : -9223372036854775808 ≤ c ∧ c ≤ 9223372036854775807) (hn : c < 0) : wrap64 (-(c + 1)) = -(c + 1) := by unfold wrap64; omega
variable {w : World} {ao aoh aos : Option Addr} {cap caph caps : Nat} {P : Par} {f : Nat → Int} {cut : Int} {s0 s1 s2 s3 s4 s5 : Int}
def FrQ (w : World) (s0 s1 s2 s3 s4 s5 : Int) : Prop :=
  (Calls Try.prog 17 #[.agg #[.int .i64 s0, .int .i64 s1, .int .i64 s2, .int .i64 s3, .int .i64 s4, .int .i64 s5]] w fun e w' => e = .returned (.tuple #[.slice none 0 0, .int .i64 120]) ∧ Below w.heap.size w w') ∨
  ∃ z : Nat, Calls Try.prog 17 #[.agg #[.int .i64 s0, .int .i64 s1, .int .i64 s2, .int .i64 s3, .int .i64 s4, .int .i64 s5]] w fun e w' => ∃ g, e = .returned (.tuple #[.slice (some ⟨g, 0, none⟩) z z, .int .i64 0]) ∧ Below w.heap.size w w' ∧
    Calls Try.prog 18 #[.agg #[.int .i64 s0, .int .i64 s1, .int .i64 s2, .int .i64 s3, .int .i64 s4, .int .i64 s5], .slice (some ⟨g, 0, none⟩) z z] w' fun e w2 => e = .returned (.int .i64 0) ∧ Below w'.heap.size w' w2
theorem fresh_q (w : World) : FrQ w s0 s1 s2 s3 s4 s5 := by
  by_cases h5 : R5 s0 s1 s2 s3 s4
  · obtain ⟨⟨a1, a2⟩, ⟨b1, b2⟩, ⟨c1, c2⟩, ⟨d1, d2⟩, ⟨e1, e2⟩⟩ := h5
    obtain ⟨o, rfl⟩ := Int.eq_ofNat_of_zero_le (show 0 ≤ s0 by omega)
    obtain ⟨s, rfl⟩ := Int.eq_ofNat_of_zero_le b1
    obtain ⟨h, rfl⟩ := Int.eq_ofNat_of_zero_le (show 0 ≤ s2 by omega)
    obtain ⟨r, rfl⟩ := Int.eq_ofNat_of_zero_le (show 0 ≤ s3 by omega)
    obtain ⟨k, rfl⟩ := Int.eq_ofNat_of_zero_le e1
    have H : (⟨o, s, h, r, k⟩ : Sh).Ok := ⟨by simp only; omega, by simp only; omega, by simp only; omega, by simp only; omega, by simp only; omega, by simp only; omega, by simp only; omega, by simp only; omega⟩
    refine .inr ⟨size ⟨o, s, h, r, k⟩, (Shape.fresh_ok (s5 := s5) H w).mono ?_⟩
    rintro e w' ⟨g, rfl, hr, hg, hb⟩
    refine ⟨g, rfl, hb, Vw.check_yes H rfl (Nat.le_refl _) hr.sees (Nat.le_refl _) (fun i hi => by obtain ⟨_, _, _, hbd⟩ := hr; have := hbd i hi; omega) (Vw.fresh_sound H)⟩
  · exact .inl (Shape.fresh_bad h5 w)
set_option maxHeartbeats 16000000 in
theorem runs_walk (S : Sees w w.heap.size ao P.n f) (hf : ∀ i, i < P.n → 0 ≤ f i ∧ f i ≤ 18446744073709551615) (SH : SeesH w w.heap.size aoh P.nh P.jn P.jb) (hn63 : P.nh ≤ 9223372036854775807) (SI : SeesI w w.heap.size aos P.ns P.sched) (hjw : ∀ h, h < P.nh → ∀ j, j < P.jn h → (P.jb h j).wf) (hcut : -9223372036854775808 ≤ cut ∧ cut ≤ 9223372036854775807) :
    Calls Try.prog 5 #[.agg #[.int .i64 s0, .int .i64 s1, .int .i64 s2, .int .i64 s3, .int .i64 s4, .int .i64 s5], .agg #[.slice ao P.n cap, .slice aoh P.nh caph, .slice aos P.ns caps, .int .i64 cut]] w fun e w' => e = .returned (.bool true) ∧ Below w.heap.size w w' := by
  have HSW := hide (fun (w1 : World) (B1 : Below w.heap.size w w1) => (S.below B1 (Nat.le_refl _)).mono B1.size)
  have PL := hide (fun (w1 : World) (B1 : Below w.heap.size w w1) => AcK.acts_all (most := 4096) (cap := cap) (caph := caph) (caps := caps) (HSW.out w1 B1) hf ((SH.below B1 (Nat.le_refl _)).up B1.size) hn63 ((SI.below B1 (Nat.le_refl _)).up B1.size) hjw)
  have FR := hide (fun w1 : World => fresh_q (s0 := s0) (s1 := s1) (s2 := s2) (s3 := s3) (s4 := s4) (s5 := s5) w1)
  have AW := hide (fun w1 : World => Vw.awake_ok w1)
  have RDR := hide (fun hn hk => rd_run (K := AcK.kAct) (P := P) (f := f) 4096 hn hk)
  clear S SH SI hf hjw
  obtain ⟨W0, hW0⟩ : ∃ W0, (w.alloc (.cells #[.int .i64 s0, .int .i64 s1, .int .i64 s2, .int .i64 s3, .int .i64 s4, .int .i64 s5] 23)).alloc (.cells #[.slice ao P.n cap, .slice aoh P.nh caph, .slice aos P.ns caps, .int .i64 cut] 70) = W0 := ⟨_, rfl⟩
  have b0 : Below w.heap.size w W0 := by rw [← hW0]; exact ((Below.refl _ w).alloc (Nat.le_refl _) _).alloc (by simp) _
  have R0 : W0.rowIs w.heap.size 23 6 (lrow [.int .i64 s0, .int .i64 s1, .int .i64 s2, .int .i64 s3, .int .i64 s4, .int .i64 s5]) := by rw [← hW0]; exact (rowL_alloc w [.int .i64 s0, .int .i64 s1, .int .i64 s2, .int .i64 s3, .int .i64 s4, .int .i64 s5] _ rfl).alloc _
  have R1 : W0.rowIs (w.heap.size + 1) 70 4 (lrow [.slice ao P.n cap, .slice aoh P.nh caph, .slice aos P.ns caps, .int .i64 cut]) := by
    have := rowL_alloc (w.alloc (.cells #[.int .i64 s0, .int .i64 s1, .int .i64 s2, .int .i64 s3, .int .i64 s4, .int .i64 s5] 23)) [.slice ao P.n cap, .slice aoh P.nh caph, .slice aos P.ns caps, .int .i64 cut] 70 rfl
    rw [World.size_alloc] at this
    rw [← hW0]; exact this
  have keep : Hid (∀ w' : World, Below W0.heap.size W0 w' → Below w.heap.size w w' ∧ w.heap.size < w'.heap.size ∧ w.heap.size + 1 < w'.heap.size ∧ w'.cell? ⟨w.heap.size, 0, none⟩ = some (.int .i64 s0) ∧ w'.cell? ⟨w.heap.size, 1, none⟩ = some (.int .i64 s1) ∧ w'.cell? ⟨w.heap.size, 2, none⟩ = some (.int .i64 s2) ∧ w'.cell? ⟨w.heap.size, 3, none⟩ = some (.int .i64 s3) ∧ w'.cell? ⟨w.heap.size, 4, none⟩ = some (.int .i64 s4) ∧ w'.cell? ⟨w.heap.size, 5, none⟩ = some (.int .i64 s5) ∧
      w'.cell? ⟨w.heap.size + 1, 1, none⟩ = some (.slice aoh P.nh caph) ∧ w'.cell? ⟨w.heap.size + 1, 2, none⟩ = some (.slice aos P.ns caps)) := fun w' hb => by
    have r := R0.of_block (hb.block w.heap.size R0.lt)
    have q := R1.of_block (hb.block (w.heap.size + 1) R1.lt)
    exact ⟨b0.trans (hb.mono b0.size), r.lt, q.lt, r.cell (i := 0) (by decide), r.cell (i := 1) (by decide), r.cell (i := 2) (by decide), r.cell (i := 3) (by decide), r.cell (i := 4) (by decide), r.cell (i := 5) (by decide), q.cell (i := 1) (by decide), q.cell (i := 2) (by decide)⟩
  have sz0 : W0.heap.size = w.heap.size + 2 := by rw [← hW0]; simp
  have k0 : W0.cell? ⟨w.heap.size + 1, 0, none⟩ = some (.slice ao P.n cap) := R1.cell (i := 0) (by decide)
  have k3 : W0.cell? ⟨w.heap.size + 1, 3, none⟩ = some (.int .i64 cut) := R1.cell (i := 3) (by decide)
  have kl := R1.lt
  clear b0 R0 R1
  go_enter Try.func5, Try.ntmps5
  go_wp2_with fail
  go_quiet (fail)
  clear k0 k3 hW0
  go_wp2_with fail
  refine (AW.out _).mono ?_
  rintro e w0 ⟨rfl, hb00⟩
  have hb0 : Below W0.heap.size W0 w0 := (below_drewN (Below.refl _ W0) nq).trans hb00
  clear hb00
  obtain ⟨bw0, l0, l0', c0, c1, c2, c3, c4, c5, c7, c8⟩ := keep.out w0 hb0
  have HB0 := hide hb0
  have hs0 := hb0.size
  clear hb0 bw0 AW
  rcases FR.out w0 with hF | ⟨z, hF⟩
  case' inl =>
    have HF := hide hF
    clear hF FR
    go_wp2_with fail
    refine HF.out.mono ?_
    rintro e w2 ⟨rfl, hb2⟩
    have HB2 := hide (HB0.out.trans (hb2.mono hs0))
    have hs2 : W0.heap.size ≤ w2.heap.size := by have := hb2.size; omega
    clear hb2 c0 c1 c2 c3 c4 c5 c7 c8 HF HB0
  case' inr =>
    have HF := hide hF
    clear hF FR
    go_wp2_with fail
    refine HF.out.mono ?_
    rintro e w1 ⟨g, rfl, hb1, hck⟩
    have HCK := hide hck
    have HB1 := hide (HB0.out.trans (hb1.mono hs0))
    have hs1 : W0.heap.size ≤ w1.heap.size := by have := hb1.size; omega
    clear hb1 hck c0 c1 c2 c3 c4 c5 c7 c8 HF HB0
    obtain ⟨bw1, l1, l1', c0, c1, c2, c3, c4, c5, c7, c8⟩ := keep.out w1 HB1.out
    clear bw1
    go_wp2_with fail
    refine HCK.out.mono ?_
    rintro e w2 ⟨rfl, hb2⟩
    have HB2 := hide (HB1.out.trans (hb2.mono hs1))
    have hs2 : W0.heap.size ≤ w2.heap.size := by have := hb2.size; omega
    clear hb2 c0 c1 c2 c3 c4 c5 c7 c8 HCK HB1
  all_goals (
    obtain ⟨bw2, l2, l2', c0, c1, c2, c3, c4, c5, c7, c8⟩ := keep.out w2 HB2.out
    have BW2 := hide bw2
    clear bw2 c0 c1 c2 c3 c4 c5
    go_wp2_with fail
    refine (PL.out w2 BW2.out).mono ?_
    rintro e w3 ⟨hb3, hcase⟩
    have B3 := hide (HB2.out.trans (hb3.mono hs2))
    have hs3 := hb3.size
    clear c7 c8
    rcases hcase with ⟨er, hle, rfl⟩ | ⟨_, hF, hok, v, rfl, blk, c, g', sv, rfl, HH, G, GS, R, hg, hne⟩
    · have her : ¬ er = 0 := by
        rcases hle with ⟨h, _⟩ | ⟨_, h⟩
        · exact absurd rfl h
        · exact h.ne
      have her' : (er != 0) = true := by simpa using her
      obtain ⟨bw3, -⟩ := keep.out w3 B3.out
      have BW3 := hide bw3
      clear hle bw3 hb3
      unfold errVal
      go_wp2_with fail
      go_ret
      exact ⟨rfl, BW3.out.alloc BW3.out.size _⟩
    · obtain ⟨sa, sc, rfl⟩ := GS.isSlice'
      have hk6 : (runSt P (st0 AcK.kAct P f) (4096 : Int).toNat).k ≤ 65536 := by
        have := (runSt_k P (st0 AcK.kAct P f) rfl (4096 : Int).toNat).1
        have e : (4096 : Int).toNat = 4096 := rfl
        omega
      have hsc : (runSt P (st0 AcK.kAct P f) (4096 : Int).toNat).k ≤ sc ∧ sc ≤ maxLen := by
        rcases GS with ⟨e1, e2, _⟩ | ⟨cap', F', e1, e2, e3, e4, _⟩
        · simp at e2; exact ⟨by omega, by rw [e2.2.2]; exact Nat.zero_le _⟩
        · simp at e1; obtain ⟨rfl, rfl⟩ := e1; exact ⟨e3, e4⟩
      have hn4 := hF.1
      have RDQ := RDR.out hF.1 hk6
      have SS := GS.seesS HH
      have SF := R.sees
      change ∀ c, c ≤ (runSt P (st0 AcK.kAct P f) (4096 : Int).toNat).k → ∃ g, Vw.rd P.n (runSt P (st0 AcK.kAct P f) (4096 : Int).toNat).k (c : Int) (fun i => toSp ((runSt P (st0 AcK.kAct P f) (4096 : Int).toNat).s i)) f = (0, P.n, g) ∧
        Vw.rd P.n ((runSt P (st0 AcK.kAct P f) (4096 : Int).toNat).k - c) (((runSt P (st0 AcK.kAct P f) (4096 : Int).toNat).k - c : Nat) : Int) (fun i => toSp ((runSt P (st0 AcK.kAct P f) (4096 : Int).toNat).s (c + i))) g = (0, P.n, (runSt P (st0 AcK.kAct P f) (4096 : Int).toNat).f) ∧ (c = (runSt P (st0 AcK.kAct P f) (4096 : Int).toNat).k → g = (runSt P (st0 AcK.kAct P f) (4096 : Int).toNat).f) at RDQ
      obtain ⟨st, hst⟩ : ∃ st, runSt P (st0 AcK.kAct P f) (4096 : Int).toNat = st := ⟨_, rfl⟩
      rw [hst] at RDQ SS SF hk6 hsc ⊢
      obtain ⟨kk, hkk⟩ : ∃ k, st.k = k := ⟨_, rfl⟩
      rw [hkk] at RDQ SS hk6 hsc ⊢
      obtain ⟨en, hen⟩ : ∃ en, decide (cnt (st.going P) P.nh = 0) = en := ⟨_, rfl⟩
      rw [hen]
      obtain ⟨ba, hba⟩ : ∃ b, blk .answers = b := ⟨_, rfl⟩
      rw [hba]
      obtain ⟨gf, hgf⟩ : ∃ g, st.f = g := ⟨_, rfl⟩
      rw [hgf] at RDQ SF
      obtain ⟨ss, hss⟩ : ∃ s, st.s = s := ⟨_, rfl⟩
      rw [hss] at RDQ SS
      clear GS HH G R hg hne hF hok hst hkk hen hba hgf hss PL RDR hb3
      obtain ⟨W3, hW3⟩ : ∃ W3, w3.alloc (.cells #[.slice sa kk sc, .slice (some ⟨g', 0, none⟩) P.n P.n, .bool en] 44) = W3 := ⟨_, rfl⟩
      have B23 : Below w3.heap.size w3 W3 := by rw [← hW3]; exact (Below.refl _ w3).alloc (Nat.le_refl _) _
      have HB03 := hide (B3.out.trans (B23.mono (Nat.le_trans hs2 hs3)))
      have R3 := hide (show W3.rowIs w3.heap.size 44 3 (lrow [.slice sa kk sc, .slice (some ⟨g', 0, none⟩) P.n P.n, .bool en]) from by rw [← hW3]; exact rowL_alloc w3 [.slice sa kk sc, .slice (some ⟨g', 0, none⟩) P.n P.n, .bool en] _ rfl)
      have hs4 : W3.heap.size = w3.heap.size + 1 := by rw [← hW3]; simp
      have HSS := hide (fun (wx : World) (hb : Below W3.heap.size W3 wx) => ((SS.below B23 (Nat.le_refl _)).below hb (by omega)).mono (show w3.heap.size ≤ wx.heap.size by have := hb.size; omega))
      have HSF := hide (fun (wx : World) (hb : Below W3.heap.size W3 wx) => ((SF.below B23 (Nat.le_refl _)).below hb (by omega)).mono (show w3.heap.size ≤ wx.heap.size by have := hb.size; omega))
      have KP := hide (show ∀ (wx : World), Below W3.heap.size W3 wx → (wx.cell? ⟨w3.heap.size, 0, none⟩ = some (.slice sa kk sc) ∧ wx.cell? ⟨w3.heap.size, 1, none⟩ = some (.slice (some ⟨g', 0, none⟩) P.n P.n) ∧ w3.heap.size < wx.heap.size) ∧ Below w.heap.size w wx from fun wx hb => by
        have r := R3.out.of_block (hb.block _ R3.out.lt)
        exact ⟨⟨r.cell (i := 0) (by omega), r.cell (i := 1) (by omega), r.lt⟩, (keep.out wx (HB03.out.trans (hb.mono HB03.out.size))).1⟩)
      have HSP := hide (show ∀ (wx : World), Below W3.heap.size W3 wx → Vw.SeesP wx sa kk (fun i => toSp (ss i)) from fun wx hb j hj => by
        obtain ⟨b, off, e, hl, hc⟩ := HSS.out wx hb j hj
        exact ⟨b, off, e, hl, fun i hi => (hc i hi).trans (by
          match i, hi with
          | 0, _ => rfl
          | 1, _ => rfl
          | 2, _ => rfl
          | 3, _ => rfl
          | 4, _ => rfl
          | 5, _ => rfl)⟩)
      have HR := hide RDQ
      clear SS SF B23 RDQ R3 HSS
      obtain ⟨⟨t0, t1, lt3⟩, bw3⟩ := KP.out W3 (Below.refl _ _)
      have BW3 := hide bw3
      obtain ⟨gA, eA, -, hA⟩ := HR.out kk (Nat.le_refl _)
      rw [hA rfl] at eA
      have RP := Vw.replay_v (cap := cap) (cs := sc) (n := (kk : Int)) (a := fun i => toSp (ss i)) (w := W3) (HSW.out W3 BW3.out) (HSP.out W3 (Below.refl _ _)) hsc.1 hsc.2 (by omega)
      rw [eA] at RP
      simp only at RP
      have RPA := hide RP
      clear RP bw3 hA eA
      go_wp2_with fail
      refine RPA.out.mono ?_
      rintro e W4 ⟨⟨ga, ca, rfl, OA⟩, hb4⟩
      have HB4 := hide hb4
      obtain ⟨⟨t0', t1', lt4⟩, bw4⟩ := KP.out W4 hb4
      have SW1 := hide (same_words (cap := ca) (cap' := P.n) (Vw.owns_sees OA.out) (HSF.out W4 hb4) (fun i hi => rfl) (by omega))
      clear t0 t1 lt3 hW3 hb4 RPA bw4
      go_wp2_with fail
      refine SW1.out.mono ?_
      rintro e w5 ⟨rfl, m5, rfl⟩
      obtain ⟨W5, hW5⟩ : ∃ W, W4.drewN m5 = W := ⟨_, rfl⟩
      have HB5 := hide (show Below W3.heap.size W3 W5 by rw [← hW5]; exact below_drewN HB4.out m5)
      have OA5 := hide (show W5.ownsRow W3.heap.size 30 1 (.slice ga P.n ca) P.n (Vw.wcs P.n gf) by rw [← hW5]; exact OA.out)
      simp only [hW5]
      clear hW5 OA HB4 SW1 t0' t1' lt4
      obtain ⟨⟨t0, t1, lt5⟩, bw5⟩ := KP.out W5 HB5.out
      have BW5 := hide bw5
      have hn9 : P.n ≤ 9223372036854775807 := by omega
      obtain ⟨C, hC⟩ : ∃ C, (if cut < 0 then -(cut + 1) else cut) = C := ⟨_, rfl⟩
      have hC1 : 0 ≤ C ∧ C ≤ 9223372036854775807 := by rw [← hC]; split <;> omega
      obtain ⟨q, hq, hqk⟩ := cut_le C kk hk6 hC1.1 hC1.2
      have wK := wK_of hk6
      have nK := nK_of kk
      have wS := wS_of hk6 hqk
      rw [wK] at hq
      obtain ⟨gB, eB, eC, -⟩ := HR.out q hqk
      have RP := Vw.replay_v (cap := cap) (cs := sc) (n := (q : Int)) (a := fun i => toSp (ss i)) (w := W5) (HSW.out W5 BW5.out) (HSP.out W5 HB5.out) hsc.1 hsc.2 hn9
      rw [eB] at RP
      simp only at RP
      have RPB := hide RP
      have EC := hide eC
      clear RP eB eC bw5 hC1
      have HN := hide (And.intro hsc (And.intro hqk (And.intro hn9 wS)))
      by_cases hneg : cut < 0
      case' pos =>
        have e1 := wC1 hcut hneg
        have e2 : wrap64 (-(cut + 1)) = C := by rw [← hC, if_pos hneg]; exact wC2 hcut hneg
        clear hC hcut wS hqk hk6 hsc hn4 hn9 hs0 hs2 hs3 hs4
        go_wp2_with fail
      case' neg =>
        have e1 : cut = C := by rw [← hC, if_neg hneg]
        clear hC hcut wS hqk hk6 hsc hn4 hn9 hs0 hs2 hs3 hs4
        subst e1
        go_wp2_with fail
      all_goals (
        refine RPB.out.mono ?_
        rintro e W6 ⟨⟨gb, cb, rfl, OB⟩, hb6⟩
        clear hq wK nK
        obtain ⟨hsc, hqk, hn9, wS⟩ := HN.out
        have HB6 := hide (HB5.out.trans (hb6.mono HB5.out.size))
        have B56 := hide hb6
        clear t0 t1 hb6
        obtain ⟨⟨t0, t1, lt6⟩, bw6⟩ := KP.out W6 HB6.out
        obtain ⟨p, hsl, hp⟩ := slice_l (sa := sa) (ns := kk) (cs := sc) q hqk hsc.1 (fun h => by obtain ⟨b, off, e, -⟩ := HSP.out W6 HB6.out 0 (Nat.lt_of_lt_of_le h (Nat.sub_le _ _)); exact ⟨b, off, e⟩)
        have RP := Vw.replay_v (ao := gb) (m := P.n) (cap := cb) (sa := p) (ns := kk - q) (cs := sc - q) (n := ((kk - q : Nat) : Int)) (f := gB) (a := fun i => toSp (ss (q + i))) (w := W6) (Vw.owns_sees OB.out) (fun j hj => by
          obtain ⟨b, off, e1, e2⟩ := hp (Nat.lt_of_le_of_lt (Nat.zero_le j) hj)
          obtain ⟨b', off', e, hl, hc⟩ := HSP.out W6 HB6.out (q + j) (Nat.add_lt_of_lt_sub' hj)
          rw [e1] at e
          injection e with e
          injection e with ea eb
          subst ea eb
          refine ⟨b, off + q * 6, e2, hl, fun i hi => ?_⟩
          have := hc i hi
          rw [idx6 off q j i] at this
          exact this) (Nat.sub_le_sub_right hsc.1 q) (Nat.le_trans (Nat.sub_le _ _) hsc.2) hn9
        rw [EC.out] at RP
        simp only at RP
        have RPC := hide RP
        clear RP hp bw6 hsc hqk
        go_wp2_with fail
        refine RPC.out.mono ?_
        rintro e W7 ⟨⟨gc, cc, rfl, OC⟩, hb7⟩
        have HB7 := hide (HB6.out.trans (hb7.mono HB6.out.size))
        have SW2 := hide (same_words (cap := cc) (cap' := ca) (Vw.owns_sees OC.out) (Vw.owns_sees (Vw.owns_on OA5.out (B56.out.trans (hb7.mono B56.out.size)))) (fun i hi => rfl) hn9)
        clear hb7 RPC RPB hsl t0 t1
        go_wp2_with fail
        refine SW2.out.mono ?_
        rintro e W8 ⟨rfl, m8, rfl⟩
        go_wp2_with fail
        go_ret
        exact ⟨rfl, below_drewN (KP.out W7 HB7.out).2 _⟩))
end VRn
end Go.Proofs.Ytmikhglnomgbfab
