/-
  Lemmas: DealOV.
-/
import Derived.Test.YtdgolkdedghajaaTq34
import Derived.Test.YtdgolkdedghajaaTq35
import Derived.Test.YtdgolkdedghajaaTq03
import Derived.Deep.CutBlock
import Derived.Deep.CutRange
/-
  DealOnce: the law's 'told': all jobs that have ended, in the order in which they ended.
-/
namespace Go.Proofs.Ytdgolkdedghajaa
open Go.RowKit
set_option linter.unusedVariables false
set_option linter.unusedSimpArgs false
set_option linter.unnecessarySimpa false
set_option maxRecDepth 20000
namespace Deal

theorem meas_b {k n : Nat} (h : k < n) : n - (intOf (.int .i64 ((k : Int) + 1))).toNat < n - (intOf (.int .i64 (k : Int))).toNat := by
  show n - ((k : Int) + 1).toNat < n - (k : Int).toNat
  omega
theorem upd_upd {α : Type} (g : Nat → α) (i : Nat) (x y : α) : upd (upd g i x) i y = upd g i y := by
  funext j; by_cases e : j = i
  · subst e; simp
  · rw [upd_other _ _ e, upd_other _ _ e, upd_other _ _ e]

def ent (t : Tld) : Int × Ans := (t.kind, t.a)

/-- What stands when 'told' is at step i. -/
def Lp (D : Nat → (Nat → Nat) → (Nat → Nat → Stp) → List (Int × Ans) → Prop) (r : Nat) (P : Par) (base gj gm : Nat) (i : Nat) (v8 : Value) (wr : World) : Prop := ∃ ml md job A T blk c, D i ml md (T.map ent) ∧ (∀ h, h < P.nh → job h = (rn r P i).done h) ∧ (∀ h, ml h ≤ i) ∧ T.length ≤ i ∧ Lm wr base gj gm P.nh ml md job A T v8 blk c

set_option maxHeartbeats 16000000 in
theorem told_ok {w : World} {s0 s1 s2 s3 s4 : Int} {aw aoh aos sa wa aa : Option Addr} {nw cw caph caps k sc n wc ac : Nat} {en0 : Bool} {P : Par} {most : Int} {r m0 : Nat} {D : Nat → (Nat → Nat) → (Nat → Nat → Stp) → List (Int × Ans) → Prop} (hD0 : D 0 (fun _ => 0) (fun _ _ => default) []) (hDs : ∀ i, i < (rn r P m0).k → ∀ ml md E, D i ml md E → ∃ h en, LT D r P m0 i ((rn r P m0).s i) ml md E h en) (h12 : 1 ≤ r ∧ r ≤ 64) (hPn : P.n = 2 + r) (hm0 : m0 ≤ 65536) (hnh : P.nh ≤ 8) (hjn : ∀ h, h < P.nh → P.jn h ≤ 256) (hok : Jok P) (hk : k = (rn r P m0).k)
    (SH : SeesH w w.heap.size aoh P.nh P.jn P.jb) (SS : SeesS w w.heap.size sa (rn r P m0).k (rn r P m0).s) (SA : SeesA w w.heap.size aa P.nh (rn r P m0).done (rn r P m0).ans) :
    Calls Try.prog 10 #[.agg #[.int .i64 s0, .int .i64 s1, .int .i64 s2, .int .i64 s3, .int .i64 s4, .int .i64 (r : Int), .slice aw nw cw, .slice aoh P.nh caph, .slice aos P.ns caps, .int .i64 most], .agg #[.slice sa k sc, .slice wa n wc, .bool en0], .slice aa P.nh ac] w fun e w' => Below w.heap.size w w' ∧ ∃ lo T cap ml md, e = .returned (.tuple #[.slice lo T.length cap, .bool true]) ∧ SeesT w' lo T ∧ D k ml md (T.map ent) := by
  have hK65 : k ≤ 65536 := by rw [hk]; have := (runSt_k P (st0 (kDeal r) P (fun _ => 0)) rfl m0).1; show (runSt P (st0 (kDeal r) P (fun _ => 0)) m0).k ≤ 65536; omega
  have LST := hide (fun (i : Nat) (hi : i < k) ml md E (d : D i ml md E) => hDs i (by rw [← hk]; exact hi) ml md E d)
  have DST := hide hD0
  have HSH := hide SH
  have HSA := hide SA
  have HNH := hide hnh
  have HJN := hide hjn
  have H12 := hide h12
  obtain ⟨W0, hW0⟩ : ∃ W0, (w.alloc (.cells #[.int .i64 s0, .int .i64 s1, .int .i64 s2, .int .i64 s3, .int .i64 s4, .int .i64 (r : Int), .slice aw nw cw, .slice aoh P.nh caph, .slice aos P.ns caps, .int .i64 most] 28)).alloc (.cells #[.slice sa k sc, .slice wa n wc, .bool en0] 32) = W0 := ⟨_, rfl⟩
  have B0 : Below w.heap.size w W0 := by rw [← hW0]; exact ((Below.refl _ w).alloc (Nat.le_refl _) _).alloc (by simp) _
  have z0 : W0.heap.size = w.heap.size + 2 := by rw [← hW0]; simp
  have R0 : W0.rowIs w.heap.size 28 10 (lrow [.int .i64 s0, .int .i64 s1, .int .i64 s2, .int .i64 s3, .int .i64 s4, .int .i64 (r : Int), .slice aw nw cw, .slice aoh P.nh caph, .slice aos P.ns caps, .int .i64 most]) := by rw [← hW0]; exact (rowL_alloc w [.int .i64 s0, .int .i64 s1, .int .i64 s2, .int .i64 s3, .int .i64 s4, .int .i64 (r : Int), .slice aw nw cw, .slice aoh P.nh caph, .slice aos P.ns caps, .int .i64 most] _ rfl).alloc _
  have R1 : W0.rowIs (w.heap.size + 1) 32 3 (lrow [.slice sa k sc, .slice wa n wc, .bool en0]) := by
    rw [← hW0]
    have := rowL_alloc (w.alloc (.cells #[.int .i64 s0, .int .i64 s1, .int .i64 s2, .int .i64 s3, .int .i64 s4, .int .i64 (r : Int), .slice aw nw cw, .slice aoh P.nh caph, .slice aos P.ns caps, .int .i64 most] 28)) [.slice sa k sc, .slice wa n wc, .bool en0] 32 (n := 3) rfl
    rwa [World.size_alloc] at this
  have keep : Hid (∀ w' : World, Below W0.heap.size W0 w' → Below w.heap.size w w' ∧ w.heap.size < w'.heap.size ∧ w.heap.size + 1 < w'.heap.size ∧ w'.cell? ⟨w.heap.size, 5, none⟩ = some (.int .i64 (r : Int)) ∧ w'.cell? ⟨w.heap.size, 7, none⟩ = some (.slice aoh P.nh caph) ∧ w'.cell? ⟨w.heap.size + 1, 0, none⟩ = some (.slice sa k sc)) := fun w' hb => by
    have q := R0.of_block (hb.block w.heap.size R0.lt)
    have q1 := R1.of_block (hb.block (w.heap.size + 1) R1.lt)
    exact ⟨B0.trans (hb.mono B0.size), q.lt, q1.lt, q.cell (i := 5) (by decide), q.cell (i := 7) (by decide), q1.cell (i := 0) (by decide)⟩
  have SSh := hide (fun (i : Nat) (hi : i < k) (wr : World) (hb : Below W0.heap.size W0 wr) => show ∃ b off, sa = some ⟨b, off, none⟩ ∧ b < wr.heap.size ∧ ∀ q, q < 6 → wr.cell? ⟨b, off + i * 6 + q, none⟩ = some (((rn r P m0).s i).cell q) from by
    obtain ⟨b, off, e, l, c⟩ := SS i (by rw [← hk]; exact hi)
    have hb2 := (keep.out wr hb).1
    exact ⟨b, off, e, Nat.lt_of_lt_of_le l hb2.size, fun q hq => (hb2.cell (p := ⟨b, off + i * 6 + q, none⟩) l).trans (c q hq)⟩)
  have LM0 := hide (lm_start W0 P.nh (fun _ _ => default))
  have B5 := hide (mk2_below W0 P.nh)
  have hmk := run_make_z (P := Try.prog) 26 3 _ 1 8 Try.underlying26 infoI P.nh (by omega) (by omega)
  have hmL := run_make_z (P := Try.prog) 74 30 _ 1 24 Try.underlying74 infoLS P.nh (by omega) (by omega)
  simp only [Nat.mul_one] at hmk hmL
  have C0 := (keep.out W0 (Below.refl _ _))
  have KA := hide (keep.out (W0.alloc (.cells (madeCells #[.int .i64 0] P.nh) 3)) ((Below.refl _ W0).alloc (Nat.le_refl _) _))
  obtain ⟨-, l1, l2, c5, c7, t0⟩ := C0
  obtain ⟨-, m1, m2, d5, d7, u0⟩ := KA.out
  clear SH SS SA hok hk h12 hPn hm0 hnh hjn hD0 hDs B0 R0 R1 z0
  go_enter Try.func10, Try.ntmps10
  go_upto_region 4 with (fail)
  obtain ⟨W5, hW5⟩ : ∃ W5, mk2 W0 P.nh = W5 := ⟨_, rfl⟩
  rw [hW5] at LM0 B5
  unfold mk2 at hW5
  rw [hW5]
  obtain ⟨base, hbase⟩ : ∃ base, W0.heap.size = base := ⟨_, rfl⟩
  have LP0 := hide (show Lp D r P base base (base + 1) 0 (.slice none 0 0) W5 from by
    obtain ⟨blk, c, M⟩ := LM0.out
    rw [hbase] at M
    exact ⟨fun _ => 0, fun _ _ => default, fun _ => 0, _, [], blk, c, DST.out, fun _ _ => rfl, fun _ => Nat.le_refl 0, Nat.le_refl 0, M⟩)
  have HBA := hide hbase
  rw [hbase]
  clear hW5 LM0 hmk hmL hbase KA m1 m2 d5 d7 u0 l1 l2 c5 c7 t0 DST
  obtain ⟨gm, hgm⟩ : ∃ gm, base + 1 = gm := ⟨_, rfl⟩
  rw [hgm] at LP0
  rw [hgm]
  obtain ⟨gj, hgj⟩ : ∃ gj, base = gj := ⟨_, rfl⟩
  have LP0 := hide (show Lp D r P base gj gm 0 (.slice none 0 0) W5 from by rw [← hgj]; exact LP0.out)
  rw [hgj]
  clear hgj hgm
  go_wp2_with fail
  go_loopw [8, 11] (fun v8 v11 wr => ∃ i : Nat, i ≤ k ∧ v11 = .int .i64 (i : Int) ∧ Lp D r P base gj gm i v8 wr ∧ Below W0.heap.size W0 wr) (fun _ v11 _ => k - (intOf v11).toNat)
  case atStart => exact ⟨0, Nat.zero_le _, rfl, LP0.out, B5.out⟩
  case round =>
    clear LP0 B5
    obtain ⟨i, hi, rfl, hp, hb⟩ := hrel
    have HB := hide hb
    have HP := hide hp
    obtain ⟨W4, hW4⟩ : ∃ W4, W4 = wr := ⟨_, rfl⟩
    subst hW4
    clear hb hp
    obtain ⟨-, l1, l2, c5, c7, t0⟩ := keep.out W4 HB.out
    by_cases hlt : i < k
    · have hlt' : (i : Int) < k := by omega
      obtain ⟨b, off, rfl, lb, cs⟩ := SSh.out i hlt W4 HB.out
      obtain ⟨ml, md, job, A, T, blk, c, d, hjob, hml, hTl, M⟩ := HP.out
      obtain ⟨h, en', Q⟩ := LST.out i hlt ml md _ d
      obtain ⟨x, hx⟩ : ∃ x, (rn r P m0).s i = x := ⟨_, rfl⟩
      rw [hx] at cs Q
      have HQ' := hide Q
      have HM := hide M
      have HML := hide hml
      have HTL := hide hTl
      have p0 := cs 0 (by decide)
      have p1 := cs 1 (by decide)
      have p2 := cs 2 (by decide)
      have p3 := cs 3 (by decide)
      have p4 := cs 4 (by decide)
      have p5 := cs 5 (by decide)
      have hxh := Q.hand
      have hnh := Q.hh
      have hjd := Q.hd
      have ej := hjob h Q.hh
      rw [← ej] at hjd
      have HEJ := hide ej
      have JQ6 := hide (show (job h : Int) ≤ 256 from by have := HJN.out h Q.hh; omega)
      have HJB := hide hjob
      obtain ⟨jq, hjq⟩ : ∃ jq, job h = jq := ⟨_, rfl⟩
      have HJQ := hide hjq
      rw [hjq] at JQ6
      obtain ⟨xh, xa, xt, xd, xp, xo⟩ := x
      simp only [Stp.cell, Nat.add_zero] at p0 p1 p2 p3 p4 p5 hxh
      subst hxh
      have c10 : W4.cell? ⟨gj, h, none⟩ = some (.int .i64 (jq : Int)) := by rw [← hjq]; exact M.rowj.cell hnh
      have l10 := M.rowj.lt
      rw [hjq] at hjd
      obtain ⟨bh, oh, av, cv, rfl, lh, ch, SJ⟩ := ((HSH.out.below (keep.out W4 HB.out).1 (Nat.le_refl _)).up (keep.out W4 HB.out).1.size) h hnh
      obtain ⟨bj, oj, rfl, lj, cj⟩ := SJ jq hjd
      have j0 := cj 0 (by decide)
      obtain ⟨jb, hjb⟩ : ∃ jb, P.jb h jq = jb := ⟨_, rfl⟩
      rw [hjb] at j0
      have HJ := hide hjb
      obtain ⟨kk, ka, kb, kc, kh⟩ := jb
      simp only [Jb.cell, Nat.add_zero] at j0
      have hnh' : (h : Int) < P.nh := by omega
      have hjd' : (jq : Int) < P.jn h := by omega
      have d1 : decide ((h : Int) < 0) = false := by simp
      have d2 : decide ((P.nh : Int) ≤ (h : Int)) = false := by simp; omega
      have d3 : decide ((P.jn h : Int) ≤ (jq : Int)) = false := by simp; omega
      have d4 : ¬ ((P.nh : Int) ≤ (h : Int)) := by omega
      have d5 : ¬ ((P.jn h : Int) ≤ (jq : Int)) := by omega
      have d6 : ¬ ((h : Int) < 0) := by omega
      have d7 : ¬ P.nh ≤ h := by omega
      have d8 : ¬ P.jn h ≤ jq := by omega
      clear cs hx Q M SJ cj ej hjob hjq hjb hml hTl d
      go_upto_region 9 with (fail)
      go_quiet (fail)
      go_upto_region 11 with (fail)
      clear d1 d2 d3 d4 d5 d6 d7 d8
      obtain ⟨W5, hW5⟩ : ∃ W5, (W4.alloc (.cells #[.int .i64 (h : Int), .int .i64 xa, .int .i64 xt, .int .u64 xd, .int .u64 xp, .bool xo] 55)).drewN nq = W5 := ⟨_, rfl⟩
      have B45 := hide (show Below W4.heap.size W4 W5 from by rw [← hW5]; exact below_drewN ((Below.refl _ W4).alloc (Nat.le_refl _) _) _)
      have R5 : W5.rowIs W4.heap.size 55 6 (lrow [.int .i64 (h : Int), .int .i64 xa, .int .i64 xt, .int .u64 xd, .int .u64 xp, .bool xo]) := by rw [← hW5]; exact (rowL_alloc W4 [.int .i64 (h : Int), .int .i64 xa, .int .i64 xt, .int .u64 xd, .int .u64 xp, .bool xo] _ rfl).of_block rfl
      rw [hW5]
      clear hW5
      have up : ∀ p v, W4.cell? p = some v → p.block < W4.heap.size → W5.cell? p = some v := fun p v e l => (B45.out.cell l).trans e
      have c7 := up _ _ c7 l1
      have ch := up _ _ ch lh
      have j0 := up _ _ j0 lj
      have c10 := up _ _ c10 l10
      have HR5 := hide R5
      have z5 := B45.out.size
      have m10 : gj < W5.heap.size := by omega
      have mh : bh < W5.heap.size := by omega
      have mj : bj < W5.heap.size := by omega
      have m1 : w.heap.size < W5.heap.size := by omega
      clear z5 up R5 p0 p1 p2 p3 p4 p5 t0 c5 nq
      go_quiet (fail)
      obtain ⟨W6, hW6⟩ : ∃ W6, W5.drewN nq = W6 := ⟨_, rfl⟩
      have B56 := hide (show Below W5.heap.size W5 W6 from by rw [← hW6]; exact below_drewN (Below.refl _ W5) _)
      have B46 := hide (B45.out.trans (B56.out.mono B45.out.size))
      rw [hW6]
      clear hW6 c7 ch j0 c10 m10 mh mj m1 l1 lh lj l10
      have HM6 := hide (HM.out.below B46.out)
      have R6 := HR5.out.of_block (B56.out.block W4.heap.size HR5.out.lt)
      have q0 : W6.cell? ⟨W4.heap.size, 0, none⟩ = some (.int .i64 (h : Int)) := R6.cell (i := 0) (by decide)
      have q1 : W6.cell? ⟨W4.heap.size, 1, none⟩ = some (.int .i64 xa) := R6.cell (i := 1) (by decide)
      have q2 : W6.cell? ⟨W4.heap.size, 2, none⟩ = some (.int .i64 xt) := R6.cell (i := 2) (by decide)
      have q3 : W6.cell? ⟨W4.heap.size, 3, none⟩ = some (.int .u64 xd) := R6.cell (i := 3) (by decide)
      have q4 : W6.cell? ⟨W4.heap.size, 4, none⟩ = some (.int .u64 xp) := R6.cell (i := 4) (by decide)
      have q5 : W6.cell? ⟨W4.heap.size, 5, none⟩ = some (.bool xo) := R6.cell (i := 5) (by decide)
      have c11 := HM6.out.rowm.cell hnh
      have f11 := HM6.out.rowm.frozen h
      have l11 := HM6.out.rowm.lt
      have mb : ml h ≤ 65536 := by have := HML.out h; omega
      have hba : base ≤ W6.heap.size := by have := HM6.out.lo.1; have := HM6.out.rowj.lt; omega
      obtain ⟨Ah, hAh⟩ : ∃ Ah, A h = Ah := ⟨_, rfl⟩
      rw [hAh] at c11
      have l4 : W4.heap.size < W6.heap.size := R6.lt
      have HAH := hide hAh
      obtain ⟨x, hx⟩ : ∃ x : Stp, x = ⟨(h : Int), xa, xt, xd, xp, xo⟩ := ⟨_, rfl⟩
      have HXX := hide hx
      have OWN := hide (fun (w' : World) (hh : Has w' base blk c) => show w'.ownsRow base 55 6 Ah (ml h) (stepCells (md h) (ml h)) from by rw [← hAh]; exact (HM6.out.rows h hnh).owns hh (stepCells_length _ _))
      have NEW := hide (fun j u (hj : x.cells[j]? = some u) => show (W6.alloc (.cells #[.int .i64 (h : Int), .int .i64 xa, .int .i64 xt, .int .u64 xd, .int .u64 xp, .bool xo] 55)).cell? (Addr.add ⟨W6.heap.size, 0, none⟩ j) = some u from cells_new W6 #[.int .i64 (h : Int), .int .i64 xa, .int .i64 xt, .int .u64 xd, .int .u64 xp, .bool xo] _ j u (by rw [hx] at hj; simpa [Stp.cells] using hj))
      have OLT := hide (fun q (hq : Ah.ownBlock = some q) => show base ≤ q ∧ q < W4.heap.size from by rw [← hAh] at hq; exact ((HM.out.rows h hnh).owns HM.out.has (stepCells_length _ _)).lt q hq)
      have N11 := hide (show base ≤ gm from HM.out.lo.2)
      clear hAh R6 hx HR5
      go_wp2_with fail
      go_cut [] from 71 to 80 (fun wx => ∃ nb cap blk' c', Lm wx base gj gm P.nh (upd ml h (ml h + 1)) (upd md h (upd (md h) (ml h) x)) job (upd A h (.slice (some ⟨nb, 0, none⟩) (ml h + 1) cap)) T u8 blk' c' ∧ Below base W6 wx)
      case first =>
        go_region_law (
          refine step_append_at rfl (.tmp 76) (.tmp 78) 30 rfl base 55 _ 6 48 Try.underlying30 info48z rfl (by decide) Ah (ml h) (stepCells (md h) (ml h)) (by simp [Act.eval, Act.put]) (OWN.out _ ((HM6.out.has.alloc _).drew)) ⟨W6.heap.size, 0, none⟩ 1 1 x.cells (by simp [Act.eval, Act.put]) rfl (fun j u hj => by have := NEW.out j u hj; simpa using this) (step_one x) (by unfold maxLen; omega) (by omega) (by simp; omega) ?_
          intro v' w3 hown hg hat
          rw [← HAH.out] at hg hat
          obtain ⟨nb, cap, blk', c', rfl, hbn, ce, fe, M7⟩ := HM6.out.set_app hba hnh (((Touch.refl W6 (fun _ => False)).alloc _).drew) hown hg hat
          rw [HAH.out] at ce
          have HM7 := hide M7
          rw [HAH.out] at hg
          have BA := hide ((((Below.refl base W6).alloc hba _).drew).grown hg (by simp; omega) (fun q hq => (OLT.out q hq).1))
          clear M7 hown hg hat hbn)
        all_goals go_wp2_with fail
        all_goals go_meet
        all_goals
          case rel => exact ⟨nb, cap, blk', c', HM7.out, BA.out.setCell N11.out _⟩
      case rest =>
        obtain ⟨nb, cap, blk', c', M7, B67⟩ := hcut
        obtain ⟨W7, hW7⟩ : ∃ W7, W7 = wc := ⟨_, rfl⟩
        subst hW7
        obtain ⟨n', hn'⟩ : ∃ n', ml h = n' := ⟨_, rfl⟩
        rw [hn'] at M7 mb
        have HN := hide hn'
        have HM7 := hide M7
        have HB67 := hide B67
        have B47 := hide (show Below base W4 W7 from (B46.out.mono (by have := HM.out.lo.1; have := HM.out.rowj.lt; omega)).trans B67)
        have HBW7 := hide (show Below W0.heap.size W0 W7 from HB.out.trans (by rw [HBA.out]; exact B47.out))
        obtain ⟨-, l1, l2, c5, c7, t0⟩ := keep.out W7 HBW7.out
        have c11 : W7.cell? ⟨gm, h, none⟩ = some (.slice (some ⟨nb, 0, none⟩) (n' + 1) cap) := by have := M7.rowm.cell hnh; rw [upd_same] at this; exact this
        have l11 := M7.rowm.lt
        have KD := hide (show kk = 1 ∨ kk = 2 ∨ kk = 3 from by have := HQ'.out.kd; rw [← HEJ.out, HJQ.out, HJ.out] at this; exact this)
        have EN := hide (show Calls Try.prog 25 #[.int .i64 (r : Int), .int .i64 kk, .slice (some ⟨nb, 0, none⟩) (n' + 1) cap] W7.drew fun e w' => e = .returned (.bool en') ∧ Below W7.heap.size W7 w' from by
          obtain ⟨sn1, sn2⟩ := M7.seen (i := h) (nb := nb) (cap := cap) (n := n') hnh (upd_same _ _ _) (upd_same _ _ _)
          have e := ends_ok (w := W7.drew) (r := r) (cap := cap) (b := nb) (off := 0) (G := upd (md h) n' x) mb KD.out sn1 (fun j hj q hq => by have := sn2 j hj q hq; rw [upd_same] at this; simpa using this)
          rw [lend_of] at e
          have en := HQ'.out.ends
          rw [← HEJ.out, HJQ.out, HJ.out, HN.out, ← HXX.out] at en
          refine e.mono (fun e' w' h' => ⟨by rw [h'.1]; exact congrArg (fun z => Ending.returned (.bool z)) en, ⟨h'.2.os, h'.2.tape, h'.2.output, h'.2.size, h'.2.block⟩⟩))
        clear M7 B67 q0 q1 q2 q3 q4 q5 f11 OWN NEW OLT HAH hn' c7 t0 l2 hba l4
        go_wp2_with fail
        go_region_held (fun w' => w'.cell? ⟨w.heap.size, 5, none⟩ = some (.int .i64 (r : Int)) ∧ w'.cell? ⟨gm, h, none⟩ = some (.slice (some ⟨nb, 0, none⟩) (n' + 1) cap)) (go_keep) (first | (go_at_call 25; refine EN.out.mono ?_; rintro e w10 ⟨rfl, hb10⟩; have jk2 := (hb10.cell (p := ⟨w.heap.size, 5, none⟩) l1).trans c5; have c112 := (hb10.cell (p := ⟨gm, h, none⟩) l11).trans c11; have HB10 := hide hb10; clear hb10))
        have HM10 := hide (HM7.out.below HB10.out)
        have B410 := hide (show Below base W4 w10 from B47.out.trans (HB10.out.mono (by have := HM7.out.lo.1; have := HM7.out.rowj.lt; omega)))
        clear jk2 c112 c11 l11 l1 c5
        cases en' with
        | false =>
          go_wp2_with fail
          go_roundw
          case rel =>
            refine ⟨i + 1, hlt, by go_num, ?_, ?_⟩
            · have D' := HQ'.out.no rfl
              rw [HN.out, ← HXX.out] at D'
              refine ⟨_, _, _, _, _, _, _, D', ?_, ?_, ?_, HM10.out⟩
              · intro h' hh'
                rw [HQ'.out.dn]
                exact HJB.out h' hh'
              · intro h'
                by_cases e : h' = h
                · subst e; rw [upd_same]; have := HML.out h'; rw [HN.out] at this; omega
                · rw [upd_other _ _ e]; have := HML.out h'; omega
              · have := HTL.out; omega
            · exact HB.out.trans (by rw [HBA.out]; exact B410.out)
          case measure => exact meas_b hlt
        | true =>
          obtain ⟨yd, D'⟩ := HQ'.out.ye rfl
          rw [← HEJ.out, HJQ.out] at yd D'
          rw [HJ.out, HN.out, ← HXX.out] at D'
          have HD' := hide D'
          have HBW := hide (show Below W0.heap.size W0 w10 from HB.out.trans (by rw [HBA.out]; exact B410.out))
          obtain ⟨ba, oa, av2, cv2, rfl, lba, ca, hA⟩ := ((HSA.out.below (keep.out w10 HBW.out).1 (Nat.le_refl _)).mono (keep.out w10 HBW.out).1.size) h hnh
          obtain ⟨bb, ob, rfl, lbb, cb⟩ := hA jq yd
          have a0 := cb 0 (by decide)
          have a1 := cb 1 (by decide)
          obtain ⟨an, han⟩ : ∃ an, (rn r P m0).ans h jq = an := ⟨_, rfl⟩
          rw [han] at a0 a1 HD'
          obtain ⟨ao, avl⟩ := an
          simp only [Ans.cell, Nat.add_zero] at a0 a1
          obtain ⟨dq, hdq⟩ : ∃ dq, (rn r P m0).done h = dq := ⟨_, rfl⟩
          rw [hdq] at ca yd
          have c10 : w10.cell? ⟨gj, h, none⟩ = some (.int .i64 (jq : Int)) := by have := HM10.out.rowj.cell hnh; rw [HJQ.out] at this; exact this
          have l10 := HM10.out.rowj.lt
          have yd' : (jq : Int) < dq := by omega
          have d1 : decide ((dq : Int) ≤ (jq : Int)) = false := by simp; omega
          have d2 : ¬ ((dq : Int) ≤ (jq : Int)) := by omega
          have d3 : ¬ dq ≤ jq := by omega
          clear hA cb han hdq D' yd
          go_wp2_with fail
          go_quiet (fail)
          go_upto_region 16 with (fail)
          clear d1 d2 d3
          obtain ⟨W11, hW11⟩ : ∃ W11, w10.drewN nq = W11 := ⟨_, rfl⟩
          have B1011 := hide (show Below w10.heap.size w10 W11 from by rw [← hW11]; exact below_drewN (Below.refl _ _) _)
          rw [hW11]
          clear hW11 nq
          have z11 := B1011.out.size
          have ca := (B1011.out.cell (p := ⟨ba, oa + h, none⟩) lba).trans ca
          have a0 := (B1011.out.cell (p := ⟨bb, ob + jq * 2, none⟩) lbb).trans a0
          have a1 := (B1011.out.cell (p := ⟨bb, ob + jq * 2 + 1, none⟩) lbb).trans a1
          have c10 := (B1011.out.cell (p := ⟨gj, h, none⟩) l10).trans c10
          have HM11 := hide (HM10.out.below B1011.out)
          have lba : ba < W11.heap.size := by omega
          have lbb : bb < W11.heap.size := by omega
          have l10 : gj < W11.heap.size := by omega
          have hba : base ≤ W11.heap.size := by have := HM11.out.lo.1; omega
          obtain ⟨y, hy⟩ : ∃ y : Tld, y = ⟨(h : Int), kk, (i : Int), ⟨ao, avl⟩⟩ := ⟨_, rfl⟩
          have HY := hide hy
          have TLE : T.length ≤ 65536 := by have := HTL.out; omega
          have HTLE := hide TLE
          have B0411 := hide (show Below base W4 W11 from B410.out.trans (B1011.out.mono (by have := HM10.out.lo.1; have := HM10.out.rowj.lt; omega)))
          have OWN := hide (fun (w' : World) (hh : Has w' base blk' c') => show w'.ownsRow base 43 5 u8 T.length (tcs T) from HM11.out.lst.owns hh (tcs_len T))
          have NEW := hide (fun j u (hj : y.cells[j]? = some u) => show (W11.alloc (.cells #[.int .i64 (h : Int), .int .i64 kk, .int .i64 (i : Int), .bool ao, .int .u64 avl] 43)).cell? (Addr.add ⟨W11.heap.size, 0, none⟩ j) = some u from cells_new W11 #[.int .i64 (h : Int), .int .i64 kk, .int .i64 (i : Int), .bool ao, .int .u64 avl] _ j u (by rw [hy] at hj; simpa [Tld.cells] using hj))
          have OLT := hide (fun q (hq : u8.ownBlock = some q) => show base ≤ q from ((HM11.out.lst.owns HM11.out.has (tcs_len T)).lt q hq).1)
          clear hy z11 TLE
          go_cut [8] from 101 to 117 (fun v8 wx => ∃ blk' c', Lm wx base gj gm P.nh (upd ml h (n' + 1)) (upd md h (upd (md h) n' x)) job (upd A h (.slice (some ⟨nb, 0, none⟩) (n' + 1) cap)) (T ++ [y]) v8 blk' c' ∧ Below base W11 wx)
          case first =>
            go_region_law (
              refine step_append_at rfl (.tmp 101) (.tmp 116) 36 rfl base 43 _ 5 40 Try.underlying36 infoTz rfl (by decide) u8 T.length (tcs T) (by simp [Act.eval, Act.put]) (OWN.out _ ((HM11.out.has.alloc _).drew)) ⟨W11.heap.size, 0, none⟩ 1 1 y.cells (by simp [Act.eval, Act.put]) rfl (fun j u hj => by have := NEW.out j u hj; simpa using this) (tld_one y) (by have := HTLE.out; unfold maxLen; omega) (by have := HTLE.out; omega) (by simp; omega) ?_
              intro v' w3 hown hg hat
              obtain ⟨blk2, c2, M8⟩ := HM11.out.add_told hba (((Touch.refl W11 (fun _ => False)).alloc _).drew) hown hg hat
              have HM8 := hide M8
              have BA := hide ((((Below.refl base W11).alloc hba _).drew).grown hg (by simp; omega) (fun q hq => OLT.out q hq))
              clear M8 hown hg hat)
            all_goals go_wp2_with fail
            all_goals go_meet
            all_goals
              case rel => exact ⟨_, _, HM8.out, BA.out⟩
          case rest =>
            obtain ⟨blk2, c2, M8, B118⟩ := hcut
            obtain ⟨W8, hW8⟩ : ∃ W8, W8 = wc := ⟨_, rfl⟩
            subst hW8
            have HM8 := hide M8
            have HB8 := hide B118
            have c10 : W8.cell? ⟨gj, h, none⟩ = some (.int .i64 (jq : Int)) := by have := M8.rowj.cell hnh; rw [HJQ.out] at this; exact this
            have f10 := M8.rowj.frozen h
            have l10 := M8.rowj.lt
            have c11 : W8.cell? ⟨gm, h, none⟩ = some (.slice (some ⟨nb, 0, none⟩) (n' + 1) cap) := by have := M8.rowm.cell hnh; rw [upd_same] at this; exact this
            have f11 := M8.rowm.frozen h
            have l11 := M8.rowm.lt
            have jb6 : (jq : Int) ≤ 256 := JQ6.out
            have ne := M8.ne
            have LO := hide M8.lo
            clear M8 B118 ca a0 a1 lba lbb hba OWN NEW OLT
            go_wp2_with fail
            go_roundw
            case rel =>
              refine ⟨i + 1, hlt, by go_num, ?_, ?_⟩
              · obtain ⟨c5, M12⟩ := HM8.out.set_job h (jq + 1)
                obtain ⟨c6, M13⟩ := M12.set_nil h
                have D' := HD'.out
                have e1 : T.map ent ++ [(kk, (⟨ao, avl⟩ : Ans))] = (T ++ [y]).map ent := by rw [HY.out, List.map_append]; rfl
                rw [e1] at D'
                rw [upd_upd] at M13
                refine ⟨_, _, _, _, _, _, c6, D', ?_, ?_, ?_, by simpa using M13⟩
                · intro h' hh'
                  rw [HQ'.out.dn, if_pos rfl]
                  by_cases e : h' = h
                  · subst e; rw [upd_same, upd_same, ← HEJ.out, HJQ.out]
                  · rw [upd_other _ _ e, upd_other _ _ e]; exact HJB.out h' hh'
                · intro h'
                  by_cases e : h' = h
                  · subst e; rw [upd_same]; omega
                  · rw [upd_other _ _ e]; have := HML.out h'; omega
                · have := HTL.out; rw [List.length_append]; simp; omega
              · exact HB.out.trans (by rw [HBA.out]; exact B0411.out.trans ((HB8.out.setCell LO.out.1 _).setCell LO.out.2 _))
            case measure => exact meas_b hlt
    · have e : i = k := by omega
      subst e
      obtain ⟨ml, md, job, A, T, blk, c, d, hjob, hml, hTl, M⟩ := HP.out
      obtain ⟨lo, cap, rfl, ST⟩ := M.told
      have HST := hide ST
      have HD := hide d
      have FIN := hide (keep.out W4 HB.out).1
      clear d M hjob hml hTl ST
      go_wp2_with fail
      go_light
      refine bodyPost_ret (v := .tuple #[.slice lo T.length cap, .bool true]) ?_ rfl ⟨FIN.out, lo, T, cap, ml, md, rfl, HST.out, HD.out⟩
      simp [results, Try.results10, go_sem, *]
end Deal
end Go.Proofs.Ytdgolkdedghajaa
