/-
  Lemmas: DealPW.
-/
import Derived.Test.YtdgolkdedghajaaTq36
import Derived.Test.YtdgolkdedghajaaTq37
import Derived.Test.YtdgolkdedghajaaTq38
import Derived.Deep.CutBlock
import Derived.Deep.CutRange
/-
  DealOrder: the law's own walk.
-/
namespace Go.Proofs.Ytdgolkdedghajaa
open Go.RowKit KV
set_option linter.unusedVariables false
set_option linter.unusedSimpArgs false
set_option linter.unnecessarySimpa false
set_option maxRecDepth 20000
namespace Deal

theorem infoSL : (Try.prog.info? 50).map (fun i => (i.zero.map Value.cells, i.size, i.bytes)) = some (some #[.slice none 0 0], 1, 24) := by kernel_rfl
theorem infoB : (Try.prog.info? 4).map (fun i => (i.zero.map Value.cells, i.size, i.bytes)) = some (some #[.bool false], 1, 1) := by kernel_rfl
/-- 'make([]T, 0, n)' as one equation. -/
theorem run_make_0 {P : Program} (t e : TypeId) (zc : Array Value) (size bytes : Nat) (ht : P.underlying t = some (.slice e)) (hinfo : (P.info? e).map (fun i => (i.zero.map Value.cells, i.size, i.bytes)) = some (some zc, size, bytes))
    (n : Nat) (hbytes : bytes * n ≤ 281474976710656) (h63 : n ≤ 9223372036854775807) (w : World) :
    (Instr.makeSlice t (.int .i64 0) (.int .i64 (n : Int))).run P w = .ok (.slice (some ⟨w.heap.size, 0, none⟩) 0 n) (w.alloc (.cells (madeCells zc (n * size)) e)) := by
  obtain ⟨i, hi, hzz⟩ := Option.map_eq_some_iff.1 hinfo
  simp only [Prod.mk.injEq] at hzz
  obtain ⟨hz, hs, hb⟩ := hzz
  obtain ⟨z, hz, hzc⟩ := Option.map_eq_some_iff.1 hz
  have hbi : (i.bytes : Int) * (n : Int) ≤ 281474976710656 := by
    rw [hb]
    have h : ((bytes * n : Nat) : Int) ≤ 281474976710656 := by omega
    rwa [Int.natCast_mul] at h
  have hr := run_make (P := P) w t e i z ht hi hz .i64 .i64 0 n (by omega) (by omega) hbi (by omega)
  simpa [hs, hzc] using hr

theorem run_do {r : Nat} {P : Par} (hr1 : 1 ≤ r) (hr2 : r ≤ 64) (hn : P.n = 2 + r) (hok : Jok P) {m : Nat} (hm : m ≤ 65536) : ∀ i, i ≤ (rn r P m).k → ∃ ml md E, Do r P (rn r P i) i ml md E
  | 0, _ => ⟨_, _, _, do_start hr1 hok (fun _ _ => default)⟩
  | i + 1, hi => by
    obtain ⟨ml, md, E, D⟩ := run_do hr1 hr2 hn hok hm i (by omega)
    obtain ⟨h, en, L⟩ := law_do hr1 hr2 hn hok hm (show i < (rn r P m).k by omega) D
    cases en with
    | false => exact ⟨_, _, _, L.no rfl⟩
    | true => exact ⟨_, _, _, (L.ye rfl).2⟩
theorem fn_updB (F : Nat → Bool) (i : Nat) (v : Bool) : (fun j => if j = i then Value.bool v else Value.bool (F j)) = fun q => Value.bool (upd F i v q) := by
  funext j
  by_cases e : j = i
  · subst e; rw [if_pos rfl, upd_same]
  · rw [if_neg e, upd_other _ _ e]
/-- The row as the law's inner loop leaves it behind q hands. -/
def sq (sc : Nat → Bool) (xo : Bool) (h q : Nat) : Nat → Bool := fun j => if j < q then (sc j || (xo && decide (¬ j = h))) else sc j
theorem sq_next (sc : Nat → Bool) (xo : Bool) (h q : Nat) : upd (sq sc xo h q) q (sc q || (xo && decide (¬ q = h))) = sq sc xo h (q + 1) := by
  funext j
  by_cases e : j = q
  · subst e
    rw [upd_same]
    unfold sq
    rw [if_pos (by omega)]
  · rw [upd_other _ _ e]
    unfold sq
    by_cases c : j < q
    · rw [if_pos c, if_pos (by omega)]
    · rw [if_neg c, if_neg (by omega)]
theorem sm_le2 (f : Nat → Nat) (b : Nat) : ∀ n, (∀ i, i < n → f i ≤ b) → sm f n ≤ n * b
  | 0, _ => by simp [sm]
  | n + 1, h => by
    show sm f n + f n ≤ _
    have := sm_le2 f b n (fun i hi => h i (by omega))
    have := h n (by omega)
    rw [Nat.succ_mul]
    omega
theorem la_step {E : List (Int × Ans)} {i : Nat} {l LE : Int} {e : Int × Ans} (hi : E[i]? = some e) (h0 : La (E.drop i) l = some LE) :
    (e.1 = 3 ∧ e.2.ok = true → ¬ e.2.val ≤ l ∧ La (E.drop (i + 1)) e.2.val = some LE) ∧ (¬ (e.1 = 3 ∧ e.2.ok = true) → La (E.drop (i + 1)) l = some LE) := by
  have hd : E.drop i = e :: E.drop (i + 1) := by
    obtain ⟨h1, h2⟩ := List.getElem?_eq_some_iff.1 hi
    rw [List.drop_eq_getElem_cons h1, h2]
  rw [hd] at h0
  unfold La at h0
  refine ⟨fun c => ?_, fun c => ?_⟩
  · rw [if_pos c] at h0
    split at h0
    · cases h0
    · rename_i v; exact ⟨v, h0⟩
  · rw [if_neg c] at h0
    exact h0

set_option maxHeartbeats 16000000 in
theorem order_walk {w : World} {sh : Shp} {aw aoh aos : Option Addr} {nw cw caph caps : Nat} {P : Par} {most : Int} {r : Nat} (hr : 1 ≤ sh.f ∧ sh.f ≤ 64 → sh.f = (r : Int) ∧ P.n = 2 + r) (SH : SeesH w w.heap.size aoh P.nh P.jn P.jb) (SI : SeesI w w.heap.size aos P.ns P.sched) (hjw : ∀ h, h < P.nh → ∀ j, j < P.jn h → (P.jb h j).wf)
    (hnlH : ∀ h, h < P.nh → ∀ b off c, aoh = some ⟨b, off, none⟩ → w.cell? ⟨b, off + h, none⟩ = some (.slice none (P.jn h) c) → c = 0) (hb2 : (P.nh + 1) * 24 ≤ 140737488355328) (hb3 : ∀ h, h < P.nh → (P.jn h + 1) * 40 ≤ 140737488355328) :
    Calls Try.prog 4 #[.agg #[.int .i64 sh.a, .int .i64 sh.b, .int .i64 sh.c, .int .i64 sh.d, .int .i64 sh.e, .int .i64 sh.f, .slice aw nw cw, .slice aoh P.nh caph, .slice aos P.ns caps, .int .i64 most]] w fun e w' => e = .returned (.bool true) ∧ Below w.heap.size w w' := by
  have AL := hide alive_any
  have FR := hide (fun (w1 : World) (B1 : Below w.heap.size w w1) (ao' : Option Addr) (cap' : Nat) (S' : SeesH w1 w1.heap.size ao' P.nh P.jn (nj P.jn P.jb)) => freshF_any (w := w1) (aoh := ao') (aw := aw) (nw := nw) (cw := cw) (caph := cap') (caps := caps) (most := most) (sh := sh) (P := { P with jb := nj P.jn P.jb }) (fun h => by rw [(hr h).1]; show ((P.n : Nat) : Int) = _; rw [(hr h).2]; simp) S' (by show P.nh ≤ 9223372036854775807; omega) ((SI.below B1 (Nat.le_refl _)).up B1.size) (fun h hh j hj => nj_wf (hjw h hh j hj)))
  have SE0 := hide (fun base er sa k sc wa n wc en aa m ac (w' : World) (h : TF sh { P with jb := nj P.jn P.jb } most base er sa k sc wa n wc en aa m ac w') => And.intro (se_of (P := { P with jb := nj P.jn P.jb }) hr h) (fun h0 : er = 0 => (hr (h h0).1).1))
  have HSH := hide SH
  have HNL := hide hnlH
  have HB2 := hide hb2
  have HB3 := hide hb3
  obtain ⟨TBx, hTB⟩ : ∃ TBx, TF sh { P with jb := nj P.jn P.jb } most = TBx := ⟨_, rfl⟩
  rw [hTB] at FR SE0
  obtain ⟨s0, s1, s2, s3, s4, s5⟩ := sh
  simp only at FR SE0 ⊢
  clear SH SI hjw hr hTB hnlH hb3
  obtain ⟨W0, hW0⟩ : ∃ W0, w.alloc (.cells #[.int .i64 s0, .int .i64 s1, .int .i64 s2, .int .i64 s3, .int .i64 s4, .int .i64 s5, .slice aw nw cw, .slice aoh P.nh caph, .slice aos P.ns caps, .int .i64 most] 28) = W0 := ⟨_, rfl⟩
  have R0 : W0.rowIs w.heap.size 28 10 (lrow [.int .i64 s0, .int .i64 s1, .int .i64 s2, .int .i64 s3, .int .i64 s4, .int .i64 s5, .slice aw nw cw, .slice aoh P.nh caph, .slice aos P.ns caps, .int .i64 most]) := by rw [← hW0]; exact rowL_alloc w [.int .i64 s0, .int .i64 s1, .int .i64 s2, .int .i64 s3, .int .i64 s4, .int .i64 s5, .slice aw nw cw, .slice aoh P.nh caph, .slice aos P.ns caps, .int .i64 most] _ rfl
  have B0 := hide (show Below w.heap.size w W0 from by rw [← hW0]; exact (Below.refl _ w).alloc (Nat.le_refl _) _)
  have HR0 := hide R0
  clear R0
  go_enter Try.func4, Try.ntmps4
  go_wp2_with fail
  refine (AL.out W0).mono ?_
  rintro e w1 ⟨rfl, hb1⟩
  have R1 := HR0.out.of_block (hb1.block w.heap.size HR0.out.lt)
  have HR1 := hide R1
  have B1 := hide (B0.out.trans (hb1.mono B0.out.size))
  have c7 : w1.cell? ⟨w.heap.size, 7, none⟩ = some (.slice aoh P.nh caph) := R1.cell (i := 7) (by decide)
  have l1 := R1.lt
  have hmk := run_make_0 (P := Try.prog) 25 50 _ 1 24 Try.underlying25 infoSL P.nh (by omega) (by omega)
  simp only [Nat.mul_one] at hmk
  obtain ⟨W2, hW2⟩ : ∃ W2, w1.alloc (.cells (madeCells #[.slice none 0 0] P.nh) 50) = W2 := ⟨_, rfl⟩
  have K0 := hide (show ∃ blk c, KO P.jn (mx P.jn P.jb 0 0) w1.heap.size W2 blk c (fun _ => 0) 0 0 (.slice (some ⟨w1.heap.size, 0, none⟩) 0 P.nh) from by rw [← hW2]; exact KO.start (by unfold maxLen; omega) _ (by simp [madeCells]))
  have B2 := hide (show Below w1.heap.size w1 W2 from by rw [← hW2]; exact (Below.refl _ w1).alloc (Nat.le_refl _) _)
  have BA := hide (B1.out.trans (B2.out.mono B1.out.size))
  clear hb1 R1 HR0 hb2
  go_upto_region 4 with (fail)
  try rw [hW2]
  clear hW2 hmk c7 l1
  obtain ⟨iJ, hiJ, hzJ, hsJ, hyJ⟩ := infoJ
  obtain ⟨iL, hiL, hzL, hsL, hyL⟩ := infoSl
  obtain ⟨b1, hb1⟩ : ∃ b1, w1.heap.size = b1 := ⟨_, rfl⟩
  have KEEP := hide (fun (wr : World) (hb : Below b1 w1 wr) => show Below w.heap.size w wr ∧ w.heap.size < wr.heap.size ∧ wr.rowIs w.heap.size 28 10 (lrow [.int .i64 s0, .int .i64 s1, .int .i64 s2, .int .i64 s3, .int .i64 s4, .int .i64 s5, .slice aw nw cw, .slice aoh P.nh caph, .slice aos P.ns caps, .int .i64 most]) from by
    rw [← hb1] at hb
    have q := HR1.out.of_block (hb.block w.heap.size HR1.out.lt)
    exact ⟨B1.out.trans (hb.mono B1.out.size), q.lt, q⟩)
  rw [hb1] at K0 B2
  have HB1 := hide hb1
  rw [hb1]
  clear hb1
  go_wp2_with fail
  go_loopw [3, 4, 5] (fun v3 v4 v5 wr => ∃ (i : Nat) (blk : Rl → Nat) (c : Rl → Option Row) (cp : Nat → Nat), i ≤ P.nh ∧ v5 = .int .i64 (i : Int) ∧ v4 = .int .u64 (nn P.jn P.jb i 0) ∧ KO P.jn (mx P.jn P.jb i 0) b1 wr blk c cp i i v3 ∧ Below b1 w1 wr) (fun _ _ v5 _ => P.nh - (intOf v5).toNat)
  case atStart =>
    obtain ⟨blk, c, K⟩ := K0.out
    exact ⟨0, blk, c, _, Nat.zero_le _, rfl, rfl, K, B2.out⟩
  case round =>
    clear K0 B2 BA
    obtain ⟨i, blk, c, cp, hi, rfl, rfl, K, hb⟩ := hrel
    have HK := hide K
    have HB := hide hb
    obtain ⟨W4, hW4⟩ : ∃ W4, W4 = wr := ⟨_, rfl⟩
    subst hW4
    obtain ⟨Bw, l1, RR⟩ := KEEP.out W4 hb
    have HBw := hide Bw
    have c7 : W4.cell? ⟨w.heap.size, 7, none⟩ = some (.slice aoh P.nh caph) := RR.cell (i := 7) (by decide)
    have z14 : b1 ≤ W4.heap.size := by rw [← HB1.out]; exact Nat.le_trans (by rw [HB1.out]; exact Nat.le_refl _) (show w1.heap.size ≤ W4.heap.size from hb.size)
    have HZ := hide z14
    clear K hb Bw RR z14
    by_cases hlt : i < P.nh
    · have hlt' : (i : Int) < P.nh := by omega
      obtain ⟨bh, oh, av, cv, rfl, lh, ch, SJ⟩ := ((HSH.out.below HBw.out (Nat.le_refl _)).up HBw.out.size) i hlt
      have HSJ := hide SJ
      have NIL := hide (show av = none → P.jn i = 0 ∧ cv = 0 from fun e => by
        subst e
        refine ⟨?_, ?_⟩
        · rcases Nat.eq_zero_or_pos (P.jn i) with z | z
          · exact z
          · obtain ⟨_, _, e, _⟩ := SJ 0 z
            cases e
        · obtain ⟨bh', oh', av', cv', e1, l1', c1', _⟩ := HSH.out i hlt
          cases e1
          have e2 := (HBw.out.cell (p := ⟨bh, oh + i, none⟩) l1').trans c1'
          rw [ch] at e2
          cases e2
          exact HNL.out i hlt bh oh _ rfl c1')
      have jb40 : (P.jn i + 1) * 40 ≤ 140737488355328 := HB3.out i hlt
      have ib : (i : Int) ≤ 5864062014806 := by have := HB2.out; omega
      have HMX := hide (mx_row P.jn P.jb i)
      clear SJ
      go_upto_region 9 with (first
        | (at_builtin; refine wpList_append_opt rfl (.tmp 32) (.tmp 37) 50 rfl W4.heap.size 52 iJ (.agg #[.int .i64 0, .int .i64 0, .int .i64 0, .int .i64 0, .int .u64 0]) 5 40 Try.underlying50 hiJ hzJ hsJ hyJ rfl (by decide) (.slice (some ⟨W4.heap.size, 0, none⟩) 0 0) 0 [] rfl (by have := World.ownsRow_lit (base := W4.heap.size) (e := 52) (size := 5) W4 #[] 0 (by simp) (by unfold maxLen; omega) rfl; simpa using this) av (P.jn i) cv (jobCells (P.jb i) (P.jn i)) rfl NIL.out (jobCells_length _ _) (sees_news (HSJ.out.below ((Below.refl _ W4).alloc (Nat.le_refl _) _) (Nat.le_refl _))) (jobCells_one _ _) (by unfold maxLen; omega) (by omega) (by simp) ?_; intro v4 w4 hown4 hgrow4 hnn; rw [Nat.zero_add, List.nil_append] at hown4; obtain ⟨g, cg, F, rfl, hg, hrw, hpre, hcg, hcm⟩ := own_row0 hown4 (fun he => by have := hnn he; cases this); have B4 := hide (show Below W4.heap.size W4 w4 from ((Below.refl _ W4).alloc (Nat.le_refl _) (.cells #[] 52)).grown hgrow4 (by simp) (by simp [Value.ownBlock])); have KR := hide (HK.out.addRow HZ.out (Touch.of_below B4.out _) hg hrw hcg (by rw [HMX.out]; exact hpre)); clear hown4 hgrow4 hnn hrw hpre))
      have B5 := hide (show Below b1 w1 w4 from HB.out.trans (B4.out.mono HZ.out))
      obtain ⟨blk2, hblk2⟩ : ∃ blk2, upd blk (.trow i) g = blk2 := ⟨_, rfl⟩
      obtain ⟨cp2, hcp2⟩ : ∃ cp2, upd cp i cg = cp2 := ⟨_, rfl⟩
      have HG := hide (show blk2 (.trow i) = g ∧ cp2 i = cg from ⟨by rw [← hblk2, upd_same], by rw [← hcp2, upd_same]⟩)
      have KS := hide (show ∃ c2, KO P.jn (mx P.jn P.jb i 0) b1 w4 blk2 c2 cp2 (i + 1) i u3 from ⟨_, by rw [← hblk2, ← hcp2]; exact KR.out⟩)
      have jnb : (P.jn i : Int) ≤ 3518437208882 := by omega
      clear hblk2 hcp2 KR HK B4 HSJ NIL HMX ch lh c7 l1 hcg hcm hg jb40
      go_wp2_with fail
      go_loopw [4, 7] (fun v4 v7 wr => ∃ (j : Nat) (c : Rl → Option Row), j ≤ P.jn i ∧ v7 = .int .i64 (j : Int) ∧ v4 = .int .u64 (nn P.jn P.jb i j) ∧ KO P.jn (mx P.jn P.jb i j) b1 wr blk2 c cp2 (i + 1) i u3 ∧ Below b1 w1 wr) (fun _ v7 _ => P.jn i - (intOf v7).toNat)
      case atStart =>
        obtain ⟨c2, K⟩ := KS.out
        exact ⟨0, c2, Nat.zero_le _, rfl, rfl, K, B5.out⟩
      case round =>
        clear KS B5
        obtain ⟨j, c2, hj, rfl, rfl, K, hb⟩ := hrel
        have HK := hide K
        have HB5 := hide hb
        by_cases hlj : j < P.jn i
        · have hlj' : (j : Int) < P.jn i := by omega
          have jb2 : (j : Int) ≤ 3518437208882 := by omega
          obtain ⟨F, er, hc, hp⟩ := K.row i (by omega)
          have RW : wr.rowIs g 52 (cg * 5) F := by have := K.has.row _ _ er; rw [HG.out.1, HG.out.2] at this; exact this
          rw [HG.out.2] at hc
          have k0 : wr.cell? ⟨g, j * 5, none⟩ = some (.int .i64 (P.jb i j).kind) := by
            rw [RW.cell (i := j * 5) (by omega)]
            have := hp _ _ (jobCells_get (mx P.jn P.jb i j i) (P.jn i) j 0 hlj (by decide))
            rw [mx_kind] at this
            exact congrArg some this
          have k4 : wr.cell? ⟨g, j * 5 + 4, none⟩ = some (.int .u64 (P.jb i j).h) := by
            rw [RW.cell (i := j * 5 + 4) (by omega)]
            have := hp _ _ (jobCells_get (mx P.jn P.jb i j i) (P.jn i) j 4 hlj (by decide))
            rw [mx_kind] at this
            exact congrArg some this
          have fz := RW.frozen (j * 5 + 4)
          have lg := RW.lt
          have GB := hide (show b1 ≤ g from by have := K.has.new _ _ er; rw [HG.out.1] at this; exact this)
          obtain ⟨kd, hkd⟩ : ∃ kd, (P.jb i j).kind = kd := ⟨_, rfl⟩
          rw [hkd] at k0
          have HKD := hide hkd
          obtain ⟨hv, hhv⟩ : ∃ hv, (P.jb i j).h = hv := ⟨_, rfl⟩
          rw [hhv] at k4
          clear K hb er hc hp RW hkd hhv
          by_cases k1 : kd = 1
          · subst k1
            obtain ⟨n1, n2⟩ := nn_lay (jn := P.jn) (jb := P.jb) HKD.out
            obtain ⟨nv, hnv⟩ : ∃ nv, nn P.jn P.jb i j = nv := ⟨_, rfl⟩
            obtain ⟨nv1, hnv1⟩ : ∃ nv1, nn P.jn P.jb i (j + 1) = nv1 := ⟨_, rfl⟩
            rw [hnv, hnv1] at n1
            have n3 : IntKind.u64.wrap (nv + 1) = nv1 := by rw [wrap_u64', n1]
            have HNV1 := hide hnv1
            rw [hnv]
            clear n1 n2 hnv hnv1
            go_wp2_with fail
            go_roundw
            case rel =>
              obtain ⟨c3, K3⟩ := HK.out.setH (i := i) (j := j) (by omega) hlj nv1
              rw [HG.out.1] at K3
              have e := mx_yes (jn := P.jn) (jb := P.jb) HKD.out
              rw [HNV1.out] at e
              rw [e] at K3
              exact ⟨j + 1, c3, hlj, viG, by rw [HNV1.out], K3, HB5.out.setCell GB.out _⟩
            case measure => exact measG hlj
          · have k1' : (kd == 1) = false := by simpa using k1
            have NK := hide (show ¬ (P.jb i j).kind = 1 from by rw [HKD.out]; exact k1)
            clear k1
            go_wp2_with fail
            go_roundw
            case rel => exact ⟨j + 1, c2, hlj, viG, by rw [(nn_not NK.out).1], by rw [← mx_no NK.out]; exact HK.out, HB5.out⟩
            case measure => exact measG hlj
        · have e : j = P.jn i := by omega
          subst e
          have HK1 := hide (HK.out.congr (mx_next P.jn P.jb i))
          have OWN := hide (show wr.ownsRow b1 50 1 u3 i (hL P.jn blk2 cp2 i) from HK.out.full.owns HK.out.has (hL_len _ _ _ _))
          have ZR := hide (show b1 ≤ wr.heap.size from by rw [← HB1.out]; exact HB5.out.size)
          have NH := hide (nn_hand P.jn P.jb i)
          clear K hb HK
          go_wp2_with (at_builtin; refine wpList_append_d rfl (.tmp 58) (.tmp 60) 25 rfl b1 50 iL (.slice none 0 0) 1 24 Try.underlying25 hiL hzL hsL hyL rfl (by decide) u3 i (hL P.jn blk2 cp2 i) rfl (OWN.out.alloc _) ⟨wr.heap.size, 0, none⟩ 1 1 [.slice (some ⟨g, 0, none⟩) (P.jn i) cg] rfl rfl (cells_new wr #[.slice (some ⟨g, 0, none⟩) (P.jn i) cg] _) (by simp [Value.oneCell']) (by have := HB2.out; unfold maxLen; omega) (by have := HB2.out; omega) (by have := ZR.out; simp; omega) ?_; intro v7 w7 hown7 hgrow7 hnn hat7; obtain ⟨blk3, c3, K3⟩ := HK1.out.addF (w1 := wr.alloc (.cells #[.slice (some ⟨g, 0, none⟩) (P.jn i) cg] 50)) (v' := v7) (Nat.lt_succ_self i) ZR.out ((Touch.refl wr _).alloc _) (by rw [HG.out.1, HG.out.2]; exact hown7) hgrow7 hat7; have HK3 := hide K3; have B7 := hide (show Below b1 w1 w7 from (HB5.out.alloc ZR.out _).grown hgrow7 (by have := ZR.out; simp; omega) (fun q hq => (OWN.out.lt q hq).1)); clear hown7 hgrow7 hnn hat7 K3)
          go_roundw
          case rel => exact ⟨i + 1, _, _, _, hlt, viG, by rw [NH.out], HK3.out, B7.out⟩
          case measure => exact measG hlt
    · have e : i = P.nh := by omega
      subst e
      obtain ⟨-, l1', RR⟩ := KEEP.out W4 HB.out
      have f7 := RR.frozen 7
      have LB := hide (show w.heap.size < b1 from by rw [← HB1.out]; exact HR1.out.lt)
      obtain ⟨W5, hW5⟩ : ∃ W5, W4.setCell ⟨w.heap.size, 7, none⟩ u3 = W5 := ⟨_, rfl⟩
      have T5 : Touch W4 W5 (fun q => q = w.heap.size) := by rw [← hW5]; exact Touch.setCell (S := fun q => q = w.heap.size) (Touch.refl W4 _) ⟨w.heap.size, 7, none⟩ (.inl rfl) _
      have K5 : KO P.jn (nj P.jn P.jb) b1 W5 blk c cp P.nh P.nh u3 := by
        have K := HK.out.congr (mx_all P.jn P.jb P.nh)
        exact { K with has := K.has.touch T5 (fun q x e hq => by have := K.has.new q x e; have := LB.out; omega) }
      obtain ⟨ao', cap', hv3, S5⟩ := K5.sees
      have HS5 := hide S5
      have B05 := hide (show Below w.heap.size w W5 from HBw.out.trans (T5.below (fun q e => by omega) (by have := HBw.out.size; omega)))
      have R5 := RR.set 7 u3
      rw [hW5] at R5
      have d0 : W5.cell? ⟨w.heap.size, 0, none⟩ = some (.int .i64 s0) := R5.cell (i := 0) (by decide)
      have d1 : W5.cell? ⟨w.heap.size, 1, none⟩ = some (.int .i64 s1) := R5.cell (i := 1) (by decide)
      have d2 : W5.cell? ⟨w.heap.size, 2, none⟩ = some (.int .i64 s2) := R5.cell (i := 2) (by decide)
      have d3 : W5.cell? ⟨w.heap.size, 3, none⟩ = some (.int .i64 s3) := R5.cell (i := 3) (by decide)
      have d4 : W5.cell? ⟨w.heap.size, 4, none⟩ = some (.int .i64 s4) := R5.cell (i := 4) (by decide)
      have d5 : W5.cell? ⟨w.heap.size, 5, none⟩ = some (.int .i64 s5) := R5.cell (i := 5) (by decide)
      have d6 : W5.cell? ⟨w.heap.size, 6, none⟩ = some (.slice aw nw cw) := R5.cell (i := 6) (by decide)
      have d7 : W5.cell? ⟨w.heap.size, 7, none⟩ = some (.slice ao' P.nh cap') := by rw [← hv3]; exact R5.cell (i := 7) (by decide)
      have d8 : W5.cell? ⟨w.heap.size, 8, none⟩ = some (.slice aos P.ns caps) := R5.cell (i := 8) (by decide)
      have d9 : W5.cell? ⟨w.heap.size, 9, none⟩ = some (.int .i64 most) := R5.cell (i := 9) (by decide)
      have KP5 := hide (fun (w' : World) (hb : Below W5.heap.size W5 w') => show Below w.heap.size w w' ∧ w.heap.size < w'.heap.size ∧ w'.cell? ⟨w.heap.size, 0, none⟩ = some (.int .i64 s0) ∧ w'.cell? ⟨w.heap.size, 1, none⟩ = some (.int .i64 s1) ∧ w'.cell? ⟨w.heap.size, 2, none⟩ = some (.int .i64 s2) ∧ w'.cell? ⟨w.heap.size, 3, none⟩ = some (.int .i64 s3) ∧ w'.cell? ⟨w.heap.size, 4, none⟩ = some (.int .i64 s4) ∧ w'.cell? ⟨w.heap.size, 5, none⟩ = some (.int .i64 s5) ∧ w'.cell? ⟨w.heap.size, 6, none⟩ = some (.slice aw nw cw) ∧ w'.cell? ⟨w.heap.size, 7, none⟩ = some (.slice ao' P.nh cap') ∧ w'.cell? ⟨w.heap.size, 8, none⟩ = some (.slice aos P.ns caps) ∧ w'.cell? ⟨w.heap.size, 9, none⟩ = some (.int .i64 most) from ⟨B05.out.trans (hb.mono B05.out.size), Nat.lt_of_lt_of_le R5.lt hb.size, (hb.cell (p := ⟨w.heap.size, 0, none⟩) R5.lt).trans d0, (hb.cell (p := ⟨w.heap.size, 1, none⟩) R5.lt).trans d1, (hb.cell (p := ⟨w.heap.size, 2, none⟩) R5.lt).trans d2, (hb.cell (p := ⟨w.heap.size, 3, none⟩) R5.lt).trans d3, (hb.cell (p := ⟨w.heap.size, 4, none⟩) R5.lt).trans d4, (hb.cell (p := ⟨w.heap.size, 5, none⟩) R5.lt).trans d5, (hb.cell (p := ⟨w.heap.size, 6, none⟩) R5.lt).trans d6, (hb.cell (p := ⟨w.heap.size, 7, none⟩) R5.lt).trans d7, (hb.cell (p := ⟨w.heap.size, 8, none⟩) R5.lt).trans d8, (hb.cell (p := ⟨w.heap.size, 9, none⟩) R5.lt).trans d9⟩)
      subst hv3
      clear R5 RR K5 T5 S5 HK KEEP HNL HB3 d0 d1 d2 d3 d4 d5 d6 d7 d8 d9
      go_upto_region 17 with (fail)
      try rw [hW5]
      clear hW5 c7 l1 l1' f7
      obtain ⟨Bw5, l1, c0, c1, c2, c3, c4, c5, c6, c7, c8, c9⟩ := KP5.out W5 (Below.refl _ _)
      clear Bw5
      go_wp2_with fail
      refine (FR.out W5 B05.out ao' cap' HS5.out).mono ?_
      rintro e w2 ⟨hb2, sa, k, sc, wa, n, wcp, en, aa, m, ac, er, rfl, hT⟩
      have SEv := hide (SE0.out _ _ _ _ _ _ _ _ _ _ _ _ _ hT)
      have B2 := hide hb2
      clear hb2 hT SE0 FR c0 c1 c2 c3 c4 c5 c6 c7 c8 c9 l1
      obtain ⟨W3, hW3⟩ : ∃ W3, w2.alloc (.cells #[.slice sa k sc, .slice wa n wcp, .bool en] 32) = W3 := ⟨_, rfl⟩
      have R3 := hide (show W3.rowIs w2.heap.size 32 3 (lrow [.slice sa k sc, .slice wa n wcp, .bool en]) from by rw [← hW3]; exact rowL_alloc w2 [.slice sa k sc, .slice wa n wcp, .bool en] _ rfl)
      have B23 := hide (show Below w2.heap.size w2 W3 from by rw [← hW3]; exact (Below.refl _ w2).alloc (Nat.le_refl _) _)
      have B3 := hide (B2.out.trans (B23.out.mono B2.out.size))
      go_upto_region 18 with (fail)
      try rw [hW3]
      clear hW3
      obtain ⟨Bw3, l1, c0, c1, c2, c3, c4, c5, c6, c7, c8, c9⟩ := KP5.out W3 B3.out
      have HBw3 := hide Bw3
      clear Bw3
      by_cases he : er = 0
      · subst he
        obtain ⟨SE1, e5⟩ := SEv.out
        obtain ⟨⟨h1, h2⟩, hPn, hm0, hnh, hjn, hdl, hok, hk, hm, hn, hen, SS, SW, SA⟩ := SE1 rfl
        have e5 := e5 rfl
        subst e5
        simp only at hPn hnh hjn hm hn
        obtain rfl : n = 2 + r := hn.trans hPn
        subst hm
        obtain ⟨m0, hm0'⟩ : ∃ m0, most.toNat = m0 := ⟨_, rfl⟩
        rw [hm0'] at hm0 hdl hk hen SS SW SA
        have RS : 0 < P.nh → Rise { P with jb := nj P.jn P.jb } := fun z => nj_rise (fun z => hjn 0 z) z
        have TLD0 := told_ok (w := W3) (P := { P with jb := nj P.jn P.jb }) (aoh := ao') (aa := aa) (s0 := s0) (s1 := s1) (s2 := s2) (s3 := s3) (s4 := s4) (aw := aw) (nw := nw) (cw := cw) (caph := cap') (aos := aos) (caps := caps) (most := most) (sc := sc) (wa := wa) (n := 2 + r) (wc := wcp) (en0 := en) (ac := ac) (D := Dq r { P with jb := nj P.jn P.jb }) (dq_start h1 hok RS _) (fun i hi ml md E d => law_dq (P := { P with jb := nj P.jn P.jb }) h1 h2 hPn hok RS hm0 hi d) ⟨h1, h2⟩ hPn hm0 hnh hjn hok hk ((HS5.out.below B3.out (Nat.le_refl _)).up B3.out.size) (fun j hj => by obtain ⟨b, off, e, l, c⟩ := (SS.below B23.out (Nat.le_refl _)) j hj; exact ⟨b, off, e, Nat.lt_of_lt_of_le l B23.out.size, c⟩) ((SA.below B23.out (Nat.le_refl _)).mono B23.out.size)
        simp only at TLD0
        have TLD := hide TLD0
        obtain ⟨Q, hQ⟩ : ∃ Q : Par, { P with jb := nj P.jn P.jb } = Q := ⟨_, rfl⟩
        rw [hQ] at TLD SS hk hok
        have HQN := hide (show Q.nh = P.nh ∧ Q.n = 2 + r from by rw [← hQ]; exact ⟨rfl, hPn⟩)
        have HDL := hide (show ∀ h, h < P.nh → (rn r Q m0).done h ≤ 256 from fun h hh => by rw [← hQ]; exact Nat.le_trans (hdl h hh) (hjn h hh))
        have RNK := hide (show rn r Q k = rn r Q m0 from by rw [hk]; exact rn_k m0)
        have HOK := hide hok
        have HSS := hide SS
        have HKK := hide hk
        have HM0 := hide hm0
        have HRN := hide (And.intro h1 h2)
        have HNH := hide hnh
        have HK := hide (show k ≤ 65536 from by rw [hk]; have := (runSt_k Q (st0 (kDeal r) Q (fun _ => 0)) rfl m0).1; show (runSt Q (st0 (kDeal r) Q (fun _ => 0)) m0).k ≤ 65536; omega)
        have t0 : W3.cell? ⟨w2.heap.size, 0, none⟩ = some (.slice sa k sc) := R3.out.cell (i := 0) (by decide)
        have t1 : W3.cell? ⟨w2.heap.size, 1, none⟩ = some (.slice wa (2 + r) wcp) := R3.out.cell (i := 1) (by decide)
        have t2 : W3.cell? ⟨w2.heap.size, 2, none⟩ = some (.bool en) := R3.out.cell (i := 2) (by decide)
        have lt3 := R3.out.lt
        clear SE1 SEv SS SW SA hok hjn hdl hen hk hm0 hm0' hPn hn hnh h1 h2 RS TLD0 hQ HSH
        go_wp2_with fail
        refine TLD.out.mono ?_
        rintro e w4 ⟨hb4, lo, T, tcap, ml, md, rfl, hST, hDo⟩
        have B4 := hide (B3.out.trans (hb4.mono B3.out.size))
        have B34 := hide hb4
        have HST := hide hST
        have t0 := (hb4.cell (p := ⟨w2.heap.size, 0, none⟩) lt3).trans t0
        have lt4 := Nat.lt_of_lt_of_le lt3 hb4.size
        obtain ⟨Bz, Uz, pdz, LE, -, hLE, -⟩ := hDo.os
        have HTB := hide (show T.length ≤ 65536 from by
          have a := hDo.d.ln
          rw [List.length_map, RNK.out, HQN.out.1] at a
          have b := sm_le2 (rn r Q m0).done 256 P.nh HDL.out
          have c := HNH.out
          omega)
        have HLE := hide hLE
        clear hb4 hST hDo TLD c0 c1 c2 c3 c4 c6 c8 c9 t1 t2 hLE c5 c7 l1
        obtain ⟨tl, htl⟩ : ∃ tl, T.length = tl := ⟨_, rfl⟩
        rw [htl] at HTB
        have HTL := hide htl
        rw [htl]
        clear htl
        go_wp2_with fail
        go_loopw [13, 14] (fun v13 v14 wr => ∃ (i : Nat) (l : Int), i ≤ tl ∧ v14 = .int .i64 (i : Int) ∧ v13 = .int .u64 l ∧ La ((T.map ent).drop i) l = some LE ∧ wr = w4) (fun _ v14 _ => tl - (intOf v14).toNat)
        case atStart => exact ⟨0, 0, Nat.zero_le _, rfl, rfl, HLE.out, rfl⟩
        case round =>
          obtain ⟨i, l, hi, rfl, rfl, hla, hw⟩ := hrel
          have hw' := hw.symm
          subst hw'
          clear hw
          have HLA := hide hla
          clear hla
          by_cases hlt2 : i < tl
          · have hlt' : (i : Int) < tl := by omega
            have ib : (i : Int) ≤ 65536 := by have := HTB.out; omega
            obtain ⟨t, ht⟩ : ∃ t, T[i]? = some t := ⟨_, List.getElem?_eq_getElem (by rw [HTL.out]; exact hlt2)⟩
            obtain ⟨b, rfl, lb, cb⟩ := HST.out i t ht
            obtain ⟨th, tk, ta, ao, av⟩ := t
            have x1 := cb 1 _ rfl
            have x3 := cb 3 _ rfl
            have x4 := cb 4 _ rfl
            have TS := hide (la_step (E := T.map ent) (i := i) (e := (tk, ⟨ao, av⟩)) (by rw [List.getElem?_map, ht]; rfl) HLA.out)
            clear ht cb
            simp only at x1 x3 x4
            by_cases k3 : tk = 3
            · subst k3
              cases ao with
              | true =>
                obtain ⟨v0, la'⟩ := TS.out.1 ⟨rfl, rfl⟩
                have v0 : ¬ av ≤ l := v0
                have HL' := hide la'
                clear la' TS
                go_wp2_with fail
                go_roundw
                case rel => exact ⟨i + 1, av, hlt2, viG, rfl, HL'.out, (by first | trivial | rfl)⟩
                case measure => exact measG hlt2
              | false =>
                have HL' := hide (TS.out.2 (fun q => by cases q.2))
                clear TS
                go_wp2_with fail
                go_roundw
                case rel => exact ⟨i + 1, l, hlt2, viG, rfl, HL'.out, (by first | trivial | rfl)⟩
                case measure => exact measG hlt2
            · have HL' := hide (TS.out.2 (fun q => k3 q.1))
              have k3' : (tk == 3) = false := by simpa using k3
              clear TS k3
              go_wp2_with fail
              go_roundw
              case rel => exact ⟨i + 1, l, hlt2, viG, rfl, HL'.out, (by first | trivial | rfl)⟩
              case measure => exact measG hlt2
          · have e : i = tl := by omega
            subst e
            obtain ⟨-, l1, -, -, -, -, -, -, -, c7, -, -⟩ := KP5.out w4 B4.out
            have hmk := run_make_z (P := Try.prog) 53 4 _ 1 1 Try.underlying53 infoB P.nh (by have := HNH.out; omega) (by have := HNH.out; omega)
            simp only [Nat.mul_one] at hmk
            obtain ⟨W6, hW6⟩ : ∃ W6, w4.alloc (.cells (madeCells #[.bool false] P.nh) 4) = W6 := ⟨_, rfl⟩
            have R6 := hide (show W6.rowIs w4.heap.size 4 P.nh (fun _ => .bool false) from by rw [← hW6]; exact World.rowIs_made w4 (.bool false) P.nh 4)
            have B46 := hide (show Below w4.heap.size w4 W6 from by rw [← hW6]; exact (Below.refl _ w4).alloc (Nat.le_refl _) _)
            obtain ⟨g, hg⟩ : ∃ g, w4.heap.size = g := ⟨_, rfl⟩
            have HGG := hide hg
            go_upto_region 32 with (fail)
            try rw [hW6]
            rw [hg] at R6 B46
            try rw [hg]
            clear hW6 hmk c7 l1 hg
            have nhb : (P.nh : Int) ≤ 8 := by have := HNH.out; omega
            have SST := hide (show Sn Q (rn r Q 0) (fun _ => false) from sn_start)
            have LSN := hide (fun (i : Nat) (hi : i < k) (sc : Nat → Bool) (S : Sn Q (rn r Q i) sc) => law_sn (m := m0) HRN.out.1 HQN.out.2 (fun h hh hg => by
              obtain ⟨ml, md, E, D⟩ := run_do HRN.out.1 HRN.out.2 HQN.out.2 HOK.out HM0.out i (by rw [← HKK.out]; omega)
              obtain ⟨B, U, pd, L, dv, _, _⟩ := D.dv
              exact ((dv.hd h hh).1 hg).1) (show i < (rn r Q m0).k by rw [← HKK.out]; exact hi) S)
            have SSh := hide (fun (i : Nat) (hi : i < k) (wr : World) (hb : Below g w4 wr) => show ∃ b off, sa = some ⟨b, off, none⟩ ∧ b < wr.heap.size ∧ ∀ q, q < 6 → wr.cell? ⟨b, off + i * 6 + q, none⟩ = some (((rn r Q m0).s i).cell q) from by
              obtain ⟨b, off, e, l, c⟩ := HSS.out i (by rw [← HKK.out]; exact hi)
              have hb2 : Below w2.heap.size w2 wr := B23.out.trans ((B34.out.trans ((show Below w4.heap.size w4 wr from by rw [HGG.out]; exact hb).mono B34.out.size)).mono B23.out.size)
              exact ⟨b, off, e, Nat.lt_of_lt_of_le l hb2.size, fun q hq => (hb2.cell (p := ⟨b, off + i * 6 + q, none⟩) l).trans (c q hq)⟩)
            go_wp2_with fail
            go_loopw [16] (fun v16 wr => ∃ (i : Nat) (sc : Nat → Bool), i ≤ k ∧ v16 = .int .i64 (i : Int) ∧ wr.rowIs g 4 P.nh (fun q => .bool (sc q)) ∧ Sn Q (rn r Q i) sc ∧ Below g w4 wr) (fun v16 _ => k - (intOf v16).toNat)
            case atStart => exact ⟨0, fun _ => false, Nat.zero_le _, rfl, R6.out, SST.out, B46.out⟩
            case round =>
              clear R6 B46 SST
              obtain ⟨i, sc', hi, rfl, R, hS, hb⟩ := hrel
              have HR := hide R
              have HB := hide hb
              obtain ⟨W4', hW4'⟩ : ∃ W4', W4' = wr := ⟨_, rfl⟩
              subst hW4'
              have lt4' : w2.heap.size < W4'.heap.size := Nat.lt_of_lt_of_le lt4 hb.size
              have t0 := (hb.cell (p := ⟨w2.heap.size, 0, none⟩) (by rw [← HGG.out]; exact lt4)).trans t0
              by_cases hlt3 : i < k
              · have hlt' : (i : Int) < k := by omega
                obtain ⟨b, off, rfl, lb, cs⟩ := SSh.out i hlt3 W4' hb
                obtain ⟨h, hhq, hx, hcas, hSn⟩ := LSN.out i hlt3 sc' hS
                obtain ⟨x, hxe⟩ : ∃ x, (rn r Q m0).s i = x := ⟨_, rfl⟩
                rw [hxe] at cs hx hcas hSn
                rw [HQN.out.1] at hhq
                have HSN := hide hSn
                have HCAS := hide hcas
                have p0 := cs 0 (by decide)
                have p1 := cs 1 (by decide)
                have p2 := cs 2 (by decide)
                have p3 := cs 3 (by decide)
                have p4 := cs 4 (by decide)
                have p5 := cs 5 (by decide)
                obtain ⟨xh, xa, xt, xd, xp, xo⟩ := x
                simp only [Stp.cell, Nat.add_zero] at p0 p1 p2 p3 p4 p5 hx
                subst hx
                have hh' : (h : Int) < P.nh := by omega
                have ib : (i : Int) ≤ 65536 := by have := HK.out; omega
                obtain ⟨W7, hW7⟩ : ∃ W7, W4'.alloc (.cells #[.int .i64 (h : Int), .int .i64 xa, .int .i64 xt, .int .u64 xd, .int .u64 xp, .bool xo] 55) = W7 := ⟨_, rfl⟩
                have R7 : W7.rowIs W4'.heap.size 55 6 (lrow [.int .i64 (h : Int), .int .i64 xa, .int .i64 xt, .int .u64 xd, .int .u64 xp, .bool xo]) := by rw [← hW7]; exact rowL_alloc W4' [.int .i64 (h : Int), .int .i64 xa, .int .i64 xt, .int .u64 xd, .int .u64 xp, .bool xo] _ rfl
                have RG7 : W7.rowIs g 4 P.nh (fun q => .bool (sc' q)) := by rw [← hW7]; exact R.alloc _
                have B7 := hide (show Below g w4 W7 from by rw [← hW7]; exact hb.alloc (by have := R.lt; omega) _)
                have NEG : g ≠ W4'.heap.size := by have := R.lt; omega
                have HNG := hide NEG
                have y0 : W7.cell? ⟨W4'.heap.size, 0, none⟩ = some (.int .i64 (h : Int)) := R7.cell (i := 0) (by decide)
                have y1 : W7.cell? ⟨W4'.heap.size, 1, none⟩ = some (.int .i64 xa) := R7.cell (i := 1) (by decide)
                have y2 : W7.cell? ⟨W4'.heap.size, 2, none⟩ = some (.int .i64 xt) := R7.cell (i := 2) (by decide)
                have y5 : W7.cell? ⟨W4'.heap.size, 5, none⟩ = some (.bool xo) := R7.cell (i := 5) (by decide)
                have ly := R7.lt
                have lg := RG7.lt
                have cg := RG7.cell (i := h) hhq
                have fg := RG7.frozen h
                have HR7 := hide R7
                have HRG7 := hide RG7
                clear hS cs hSn hcas hxe R R7 RG7 hb
                go_upto_region 36 with (fail)
                try rw [hW7]
                clear hW7 p0 p1 p2 p3 p4 p5 t0
                have gw : g ≤ g := Nat.le_refl g
                by_cases a5 : xa = 5
                · subst a5
                  have RI := hide (show W7.rowIs g 4 P.nh (fun q => .bool (sq sc' xo h 0 q)) from by
                    have e : (fun q => Value.bool (sq sc' xo h 0 q)) = fun q => .bool (sc' q) := by funext q; unfold sq; rw [if_neg (by omega)]
                    rw [e]; exact HRG7.out)
                  by_cases t0' : xt = 0
                  · subst t0'
                    cases xo with
                    | true =>
                      clear HCAS
                      have EN := hide (show ∀ q, q < P.nh → sq sc' true h P.nh q = scn sc' h ⟨(h : Int), 5, 0, xd, xp, true⟩ q from fun q hq => by unfold scn sq; rw [if_pos rfl, if_pos hq])
                      go_wp2_with fail
                      go_loopw [18] (fun v18 wr => ∃ q : Nat, q ≤ P.nh ∧ v18 = .int .i64 (q : Int) ∧ wr.rowIs g 4 P.nh (fun j => .bool (sq sc' true h q j)) ∧ wr.rowIs W4'.heap.size 55 6 (lrow [.int .i64 (h : Int), .int .i64 5, .int .i64 0, .int .u64 xd, .int .u64 xp, .bool true]) ∧ Below g w4 wr) (fun v18 _ => P.nh - (intOf v18).toNat)
                      case atStart => exact ⟨0, Nat.zero_le _, rfl, RI.out, HR7.out, B7.out⟩
                      case round =>
                        clear RI HR7 HRG7 B7 y0 y1 y2 y5 cg fg lg ly
                        obtain ⟨q, hq, rfl, Rq, Rs, hbq⟩ := hrel
                        have HRq := hide Rq
                        have HRs := hide Rs
                        have HBq := hide hbq
                        by_cases hlq : q < P.nh
                        · have hlq' : (q : Int) < P.nh := by omega
                          have y0 : wr.cell? ⟨W4'.heap.size, 0, none⟩ = some (.int .i64 (h : Int)) := Rs.cell (i := 0) (by decide)
                          have y5 : wr.cell? ⟨W4'.heap.size, 5, none⟩ = some (.bool true) := Rs.cell (i := 5) (by decide)
                          have ly := Rs.lt
                          have lg := Rq.lt
                          have cg : wr.cell? ⟨g, q, none⟩ = some (.bool (sc' q)) := by have := Rq.cell (i := q) hlq; unfold sq at this; rw [if_neg (by omega)] at this; exact this
                          have fg := Rq.frozen q
                          have NX := hide (sq_next sc' true h q)
                          clear Rq Rs hbq
                          cases hsq : sc' q with
                          | true =>
                            rw [hsq] at cg
                            have V := hide (show upd (sq sc' true h q) q true = sq sc' true h (q + 1) from by have := NX.out; rw [hsq] at this; simpa using this)
                            clear hsq NX
                            go_wp2_with fail
                            go_roundw
                            case rel =>
                              have w8 := HRq.out.set q (.bool true)
                              rw [fn_updB, V.out] at w8
                              exact ⟨q + 1, hlq, viG, w8, HRs.out.setOther (fun e => HNG.out e.symm) _, HBq.out.setCell gw _⟩
                            case measure => exact measG hlq
                          | false =>
                            rw [hsq] at cg
                            by_cases eq : q = h
                            · subst eq
                              have V := hide (show upd (sq sc' true q q) q false = sq sc' true q (q + 1) from by have := NX.out; rw [hsq] at this; simpa using this)
                              clear hsq NX
                              go_wp2_with fail
                              go_roundw
                              case rel =>
                                have w8 := HRq.out.set q (.bool false)
                                rw [fn_updB, V.out] at w8
                                exact ⟨q + 1, hlq, viG, w8, HRs.out.setOther (fun e => HNG.out e.symm) _, HBq.out.setCell gw _⟩
                              case measure => exact measG hlq
                            · have V := hide (show upd (sq sc' true h q) q true = sq sc' true h (q + 1) from by have := NX.out; rw [hsq] at this; simpa [eq] using this)
                              have ne' : ((q : Int) != (h : Int)) = true := by simp; omega
                              have ne2 : ¬ (q : Int) = (h : Int) := by omega
                              clear hsq NX
                              go_wp2_with fail
                              go_roundw
                              case rel =>
                                have w8 := HRq.out.set q (.bool true)
                                rw [fn_updB, V.out] at w8
                                exact ⟨q + 1, hlq, viG, w8, HRs.out.setOther (fun e => HNG.out e.symm) _, HBq.out.setCell gw _⟩
                              case measure => exact measG hlq
                        · have e : q = P.nh := by omega
                          subst e
                          have FR8 := hide (show wr.rowIs g 4 P.nh (fun j => .bool (scn sc' h ⟨(h : Int), 5, 0, xd, xp, true⟩ j)) from World.rowIs.congr HRq.out (fun j hj => by rw [EN.out j hj]))
                          clear Rq Rs hbq
                          go_wp2_with fail
                          go_roundw
                          case rel => exact ⟨i + 1, _, hlt3, viG, FR8.out, HSN.out, HBq.out⟩
                          case measure => exact measG hlt3
                    | false =>
                      have sct : sc' h = true := HCAS.out rfl rfl
                      rw [sct] at cg
                      clear sct
                      clear HCAS
                      have EN := hide (show ∀ q, q < P.nh → sq sc' false h P.nh q = scn sc' h ⟨(h : Int), 5, 0, xd, xp, false⟩ q from fun q hq => by unfold scn sq; rw [if_pos rfl, if_pos hq])
                      go_wp2_with fail
                      go_loopw [18] (fun v18 wr => ∃ q : Nat, q ≤ P.nh ∧ v18 = .int .i64 (q : Int) ∧ wr.rowIs g 4 P.nh (fun j => .bool (sq sc' false h q j)) ∧ wr.rowIs W4'.heap.size 55 6 (lrow [.int .i64 (h : Int), .int .i64 5, .int .i64 0, .int .u64 xd, .int .u64 xp, .bool false]) ∧ Below g w4 wr) (fun v18 _ => P.nh - (intOf v18).toNat)
                      case atStart => exact ⟨0, Nat.zero_le _, rfl, RI.out, HR7.out, B7.out⟩
                      case round =>
                        clear RI HR7 HRG7 B7 y0 y1 y2 y5 cg fg lg ly
                        obtain ⟨q, hq, rfl, Rq, Rs, hbq⟩ := hrel
                        have HRq := hide Rq
                        have HRs := hide Rs
                        have HBq := hide hbq
                        by_cases hlq : q < P.nh
                        · have hlq' : (q : Int) < P.nh := by omega
                          have y0 : wr.cell? ⟨W4'.heap.size, 0, none⟩ = some (.int .i64 (h : Int)) := Rs.cell (i := 0) (by decide)
                          have y5 : wr.cell? ⟨W4'.heap.size, 5, none⟩ = some (.bool false) := Rs.cell (i := 5) (by decide)
                          have ly := Rs.lt
                          have lg := Rq.lt
                          have cg : wr.cell? ⟨g, q, none⟩ = some (.bool (sc' q)) := by have := Rq.cell (i := q) hlq; unfold sq at this; rw [if_neg (by omega)] at this; exact this
                          have fg := Rq.frozen q
                          have NX := hide (sq_next sc' false h q)
                          clear Rq Rs hbq
                          cases hsq : sc' q with
                          | true =>
                            rw [hsq] at cg
                            have V := hide (show upd (sq sc' false h q) q true = sq sc' false h (q + 1) from by have := NX.out; rw [hsq] at this; simpa using this)
                            clear hsq NX
                            go_wp2_with fail
                            go_roundw
                            case rel =>
                              have w8 := HRq.out.set q (.bool true)
                              rw [fn_updB, V.out] at w8
                              exact ⟨q + 1, hlq, viG, w8, HRs.out.setOther (fun e => HNG.out e.symm) _, HBq.out.setCell gw _⟩
                            case measure => exact measG hlq
                          | false =>
                            rw [hsq] at cg
                            have V := hide (show upd (sq sc' false h q) q false = sq sc' false h (q + 1) from by have := NX.out; rw [hsq] at this; simpa using this)
                            clear hsq NX
                            go_wp2_with fail
                            go_roundw
                            case rel =>
                              have w8 := HRq.out.set q (.bool false)
                              rw [fn_updB, V.out] at w8
                              exact ⟨q + 1, hlq, viG, w8, HRs.out.setOther (fun e => HNG.out e.symm) _, HBq.out.setCell gw _⟩
                            case measure => exact measG hlq
                        · have e : q = P.nh := by omega
                          subst e
                          have FR8 := hide (show wr.rowIs g 4 P.nh (fun j => .bool (scn sc' h ⟨(h : Int), 5, 0, xd, xp, false⟩ j)) from World.rowIs.congr HRq.out (fun j hj => by rw [EN.out j hj]))
                          clear Rq Rs hbq
                          go_wp2_with fail
                          go_roundw
                          case rel => exact ⟨i + 1, _, hlt3, viG, FR8.out, HSN.out, HBq.out⟩
                          case measure => exact measG hlt3
                  · have t1' : (xt == 0) = false := by simpa using t0'
                    clear t0'
                    cases xo with
                    | true =>
                      clear HCAS
                      have EN := hide (show ∀ q, q < P.nh → sq sc' true h P.nh q = scn sc' h ⟨(h : Int), 5, xt, xd, xp, true⟩ q from fun q hq => by unfold scn sq; rw [if_pos rfl, if_pos hq])
                      go_wp2_with fail
                      go_loopw [18] (fun v18 wr => ∃ q : Nat, q ≤ P.nh ∧ v18 = .int .i64 (q : Int) ∧ wr.rowIs g 4 P.nh (fun j => .bool (sq sc' true h q j)) ∧ wr.rowIs W4'.heap.size 55 6 (lrow [.int .i64 (h : Int), .int .i64 5, .int .i64 xt, .int .u64 xd, .int .u64 xp, .bool true]) ∧ Below g w4 wr) (fun v18 _ => P.nh - (intOf v18).toNat)
                      case atStart => exact ⟨0, Nat.zero_le _, rfl, RI.out, HR7.out, B7.out⟩
                      case round =>
                        clear RI HR7 HRG7 B7 y0 y1 y2 y5 cg fg lg ly
                        obtain ⟨q, hq, rfl, Rq, Rs, hbq⟩ := hrel
                        have HRq := hide Rq
                        have HRs := hide Rs
                        have HBq := hide hbq
                        by_cases hlq : q < P.nh
                        · have hlq' : (q : Int) < P.nh := by omega
                          have y0 : wr.cell? ⟨W4'.heap.size, 0, none⟩ = some (.int .i64 (h : Int)) := Rs.cell (i := 0) (by decide)
                          have y5 : wr.cell? ⟨W4'.heap.size, 5, none⟩ = some (.bool true) := Rs.cell (i := 5) (by decide)
                          have ly := Rs.lt
                          have lg := Rq.lt
                          have cg : wr.cell? ⟨g, q, none⟩ = some (.bool (sc' q)) := by have := Rq.cell (i := q) hlq; unfold sq at this; rw [if_neg (by omega)] at this; exact this
                          have fg := Rq.frozen q
                          have NX := hide (sq_next sc' true h q)
                          clear Rq Rs hbq
                          cases hsq : sc' q with
                          | true =>
                            rw [hsq] at cg
                            have V := hide (show upd (sq sc' true h q) q true = sq sc' true h (q + 1) from by have := NX.out; rw [hsq] at this; simpa using this)
                            clear hsq NX
                            go_wp2_with fail
                            go_roundw
                            case rel =>
                              have w8 := HRq.out.set q (.bool true)
                              rw [fn_updB, V.out] at w8
                              exact ⟨q + 1, hlq, viG, w8, HRs.out.setOther (fun e => HNG.out e.symm) _, HBq.out.setCell gw _⟩
                            case measure => exact measG hlq
                          | false =>
                            rw [hsq] at cg
                            by_cases eq : q = h
                            · subst eq
                              have V := hide (show upd (sq sc' true q q) q false = sq sc' true q (q + 1) from by have := NX.out; rw [hsq] at this; simpa using this)
                              clear hsq NX
                              go_wp2_with fail
                              go_roundw
                              case rel =>
                                have w8 := HRq.out.set q (.bool false)
                                rw [fn_updB, V.out] at w8
                                exact ⟨q + 1, hlq, viG, w8, HRs.out.setOther (fun e => HNG.out e.symm) _, HBq.out.setCell gw _⟩
                              case measure => exact measG hlq
                            · have V := hide (show upd (sq sc' true h q) q true = sq sc' true h (q + 1) from by have := NX.out; rw [hsq] at this; simpa [eq] using this)
                              have ne' : ((q : Int) != (h : Int)) = true := by simp; omega
                              have ne2 : ¬ (q : Int) = (h : Int) := by omega
                              clear hsq NX
                              go_wp2_with fail
                              go_roundw
                              case rel =>
                                have w8 := HRq.out.set q (.bool true)
                                rw [fn_updB, V.out] at w8
                                exact ⟨q + 1, hlq, viG, w8, HRs.out.setOther (fun e => HNG.out e.symm) _, HBq.out.setCell gw _⟩
                              case measure => exact measG hlq
                        · have e : q = P.nh := by omega
                          subst e
                          have FR8 := hide (show wr.rowIs g 4 P.nh (fun j => .bool (scn sc' h ⟨(h : Int), 5, xt, xd, xp, true⟩ j)) from World.rowIs.congr HRq.out (fun j hj => by rw [EN.out j hj]))
                          clear Rq Rs hbq
                          go_wp2_with fail
                          go_roundw
                          case rel => exact ⟨i + 1, _, hlt3, viG, FR8.out, HSN.out, HBq.out⟩
                          case measure => exact measG hlt3
                    | false =>
                      have sct : sc' h = true := HCAS.out rfl rfl
                      rw [sct] at cg
                      clear sct
                      clear HCAS
                      have EN := hide (show ∀ q, q < P.nh → sq sc' false h P.nh q = scn sc' h ⟨(h : Int), 5, xt, xd, xp, false⟩ q from fun q hq => by unfold scn sq; rw [if_pos rfl, if_pos hq])
                      go_wp2_with fail
                      go_loopw [18] (fun v18 wr => ∃ q : Nat, q ≤ P.nh ∧ v18 = .int .i64 (q : Int) ∧ wr.rowIs g 4 P.nh (fun j => .bool (sq sc' false h q j)) ∧ wr.rowIs W4'.heap.size 55 6 (lrow [.int .i64 (h : Int), .int .i64 5, .int .i64 xt, .int .u64 xd, .int .u64 xp, .bool false]) ∧ Below g w4 wr) (fun v18 _ => P.nh - (intOf v18).toNat)
                      case atStart => exact ⟨0, Nat.zero_le _, rfl, RI.out, HR7.out, B7.out⟩
                      case round =>
                        clear RI HR7 HRG7 B7 y0 y1 y2 y5 cg fg lg ly
                        obtain ⟨q, hq, rfl, Rq, Rs, hbq⟩ := hrel
                        have HRq := hide Rq
                        have HRs := hide Rs
                        have HBq := hide hbq
                        by_cases hlq : q < P.nh
                        · have hlq' : (q : Int) < P.nh := by omega
                          have y0 : wr.cell? ⟨W4'.heap.size, 0, none⟩ = some (.int .i64 (h : Int)) := Rs.cell (i := 0) (by decide)
                          have y5 : wr.cell? ⟨W4'.heap.size, 5, none⟩ = some (.bool false) := Rs.cell (i := 5) (by decide)
                          have ly := Rs.lt
                          have lg := Rq.lt
                          have cg : wr.cell? ⟨g, q, none⟩ = some (.bool (sc' q)) := by have := Rq.cell (i := q) hlq; unfold sq at this; rw [if_neg (by omega)] at this; exact this
                          have fg := Rq.frozen q
                          have NX := hide (sq_next sc' false h q)
                          clear Rq Rs hbq
                          cases hsq : sc' q with
                          | true =>
                            rw [hsq] at cg
                            have V := hide (show upd (sq sc' false h q) q true = sq sc' false h (q + 1) from by have := NX.out; rw [hsq] at this; simpa using this)
                            clear hsq NX
                            go_wp2_with fail
                            go_roundw
                            case rel =>
                              have w8 := HRq.out.set q (.bool true)
                              rw [fn_updB, V.out] at w8
                              exact ⟨q + 1, hlq, viG, w8, HRs.out.setOther (fun e => HNG.out e.symm) _, HBq.out.setCell gw _⟩
                            case measure => exact measG hlq
                          | false =>
                            rw [hsq] at cg
                            have V := hide (show upd (sq sc' false h q) q false = sq sc' false h (q + 1) from by have := NX.out; rw [hsq] at this; simpa using this)
                            clear hsq NX
                            go_wp2_with fail
                            go_roundw
                            case rel =>
                              have w8 := HRq.out.set q (.bool false)
                              rw [fn_updB, V.out] at w8
                              exact ⟨q + 1, hlq, viG, w8, HRs.out.setOther (fun e => HNG.out e.symm) _, HBq.out.setCell gw _⟩
                            case measure => exact measG hlq
                        · have e : q = P.nh := by omega
                          subst e
                          have FR8 := hide (show wr.rowIs g 4 P.nh (fun j => .bool (scn sc' h ⟨(h : Int), 5, xt, xd, xp, false⟩ j)) from World.rowIs.congr HRq.out (fun j hj => by rw [EN.out j hj]))
                          clear Rq Rs hbq
                          go_wp2_with fail
                          go_roundw
                          case rel => exact ⟨i + 1, _, hlt3, viG, FR8.out, HSN.out, HBq.out⟩
                          case measure => exact measG hlt3
                · have a5' : (xa != 5) = true := by simpa using a5
                  by_cases lo0 : xt = 0 ∧ xa = 1
                  · obtain ⟨rfl, rfl⟩ := lo0
                    have EN := hide (show scn sc' h ⟨(h : Int), 1, 0, xd, xp, xo⟩ = upd sc' h false from by unfold scn; rw [if_neg (by show ¬ (1 : Int) = 5; decide), if_pos ⟨rfl, rfl⟩])
                    clear a5
                    go_wp2_with fail
                    go_roundw
                    case rel =>
                      have q := HRG7.out.set h (.bool false)
                      rw [fn_updB] at q
                      exact ⟨i + 1, upd sc' h false, hlt3, viG, q, by rw [← EN.out]; exact HSN.out, B7.out.setCell gw _⟩
                    case measure => exact measG hlt3
                  · have EN := hide (show scn sc' h ⟨(h : Int), xa, xt, xd, xp, xo⟩ = sc' from by unfold scn; rw [if_neg a5, if_neg lo0])
                    by_cases t0' : xt = 0
                    · subst t0'
                      have a1' : (xa == 1) = false := by simp; exact fun e => lo0 ⟨rfl, e⟩
                      clear a5 lo0
                      go_wp2_with fail
                      go_roundw
                      case rel => exact ⟨i + 1, sc', hlt3, viG, HRG7.out, by rw [← EN.out]; exact HSN.out, B7.out⟩
                      case measure => exact measG hlt3
                    · have t1' : (xt == 0) = false := by simpa using t0'
                      clear a5 lo0 t0'
                      go_wp2_with fail
                      go_roundw
                      case rel => exact ⟨i + 1, sc', hlt3, viG, HRG7.out, by rw [← EN.out]; exact HSN.out, B7.out⟩
                      case measure => exact measG hlt3
              · have e : i = k := by omega
                subst e
                have FIN := hide (KP5.out W4' (B4.out.trans ((show Below w4.heap.size w4 W4' from by rw [HGG.out]; exact HB.out).mono B4.out.size))).1
                clear R hb hS
                go_wp2_with fail
                go_ret
                exact ⟨rfl, FIN.out⟩
      · have he' : (er == 0) = false := by simpa using he
        go_wp2_with fail
        go_ret
        exact ⟨rfl, HBw3.out⟩
end Deal
end Go.Proofs.Ytdgolkdedghajaa
