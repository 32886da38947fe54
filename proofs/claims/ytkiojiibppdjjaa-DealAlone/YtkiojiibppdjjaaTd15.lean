/-
  DealAlone: whatever shape and jobs are handed in, of the first hundred jobs one hand alone is told what a list tells: a Lay lays behind while there is room, a Draw takes the last, a Steal the first: the law answers true, and the input reads as it did. No condition beyond the row's.
-/
import Derived.Test.YtkiojiibppdjjaaTd14
import Derived.Deep.CutRange
import Derived.Deep.CutBlock
import Derived.Deep.QuietTactic
import Derived.Test.YtkiojiibppdjjaaTp21
set_option linter.unusedVariables false
set_option linter.unusedSimpArgs false
set_option linter.unnecessarySimpa false
set_option maxRecDepth 100000
namespace Go.Proofs.Ytkiojiibppdjjaa
open Go.RowKit
namespace Deal
open PKept

theorem aggU8 (w : World) : (isAgg 47).run Try.prog w = .ok false w := by simp [go_sem]
theorem sizeJb : (Try.prog.info? 49).map (·.size) = some 5 := by kernel_rfl
theorem fieldJ4 (w : World) (b q : Nat) : (Instr.fieldAt 49 (.pointer (some ⟨b, q, none⟩)) 4).run Try.prog w = .ok (.pointer (some ⟨b, q + 4, none⟩)) w := by simp [go_sem]
theorem up_a {k : Nat} (h : (k : Int) ≤ 9223372036854775805) : wrap64 ((k : Int) + 1) = ((k + 1 : Nat) : Int) := by unfold wrap64; omega
theorem meas_a {k n : Nat} (h : k < n) : n - (intOf (.int .i64 ((k + 1 : Nat) : Int))).toNat < n - (intOf (.int .i64 (k : Int))).toNat := by
  show n - ((k + 1 : Nat) : Int).toNat < n - (k : Int).toNat
  omega
theorem pop_a {n cap : Nat} (h : n + 1 ≤ cap) (hn : n ≤ 4096) : wrap64 ((n : Int) + 1 - 1) = (n : Int) ∧ wrap64 (n : Int) = (n : Int) ∧ IntKind.i64.wrap (n : Int) = (n : Int) ∧ (n : Int) ≤ (cap : Int) ∧ ¬ (cap : Int) < (n : Int) ∧ n ≤ cap ∧ ¬ cap < n ∧ (n : Int) < (n : Int) + 1 := by
  refine ⟨by unfold wrap64; omega, by unfold wrap64; omega, by rw [IntKind.wrap_i64]; omega, by omega, by omega, by omega, by omega, by omega⟩

theorem below_dn {B : Nat} {a b : World} (h : Below B a b) (k : Nat) : Below B a (b.drewN k) := ⟨h.os, h.tape, h.output, h.size, h.block⟩

theorem vi_a {i : Nat} : Value.int .i64 ((i : Int) + 1) = .int .i64 ((i + 1 : Nat) : Int) := by simp
theorem meas_a' {k n : Nat} (h : k < n) : n - (intOf (.int .i64 ((k : Int) + 1))).toNat < n - (intOf (.int .i64 (k : Int))).toNat := by
  show n - ((k : Int) + 1).toNat < n - (k : Int).toNat
  omega

set_option maxHeartbeats 16000000 in
theorem alone_walk {w : World} {s0 s1 s2 s3 s4 s5 : Int} {aoj : Option Addr} {n0 cap0 : Nat} {jb : Nat → Jb} (SJ : SeesJ w w.heap.size aoj n0 jb) (hcap : n0 ≤ cap0) (hjw : ∀ j, j < n0 → (jb j).wf) :
    Calls Try.prog 6 #[.agg #[.int .i64 s0, .int .i64 s1, .int .i64 s2, .int .i64 s3, .int .i64 s4, .int .i64 s5], .slice aoj n0 cap0] w fun e w' => e = .returned (.bool true) ∧ Below w.heap.size w w' := by
  obtain ⟨nj, hnj, hj100, hj0⟩ : ∃ nj, (((100 : Int) < n0 ∧ nj = 100) ∨ (¬ (100 : Int) < n0 ∧ nj = n0)) ∧ nj ≤ 100 ∧ nj ≤ n0 := by
    by_cases h : (100 : Int) < n0
    · exact ⟨100, .inl ⟨h, rfl⟩, Nat.le_refl _, by omega⟩
    · exact ⟨n0, .inr ⟨h, rfl⟩, by omega, Nat.le_refl _⟩
  have HSJ := hide SJ
  have HJW := hide hjw
  have HNJ := hide (And.intro hj100 hj0)
  have HCAP := hide hcap
  obtain ⟨W1, hW1⟩ : ∃ W1, w.alloc (.cells #[.int .i64 s0, .int .i64 s1, .int .i64 s2, .int .i64 s3, .int .i64 s4, .int .i64 s5] 23) = W1 := ⟨_, rfl⟩
  have B1 : Below w.heap.size w W1 := by rw [← hW1]; exact (Below.refl _ w).alloc (Nat.le_refl _) _
  have R1 : W1.rowIs w.heap.size 23 6 (lrow [.int .i64 s0, .int .i64 s1, .int .i64 s2, .int .i64 s3, .int .i64 s4, .int .i64 s5]) := by rw [← hW1]; exact rowL_alloc w [.int .i64 s0, .int .i64 s1, .int .i64 s2, .int .i64 s3, .int .i64 s4, .int .i64 s5] _ rfl
  have z1 : W1.heap.size = w.heap.size + 1 := by rw [← hW1]; simp
  have HB1 := hide B1
  have HR1 := hide R1
  clear SJ hjw hj100 hj0 hcap B1 R1
  go_enter Try.func6, Try.ntmps6
  go_wp2_with fail
  refine (alive_any W1).mono ?_
  rintro e w2 ⟨rfl, hb2⟩
  have s2' := hb2.size
  have R2 := HR1.out.of_block (hb2.block w.heap.size (by omega))
  have B2 := hide (HB1.out.trans (hb2.mono (by omega)))
  have c0 : w2.cell? ⟨w.heap.size, 0, none⟩ = some (.int .i64 s0) := R2.cell (i := 0) (by omega)
  have c1 : w2.cell? ⟨w.heap.size, 1, none⟩ = some (.int .i64 s1) := R2.cell (i := 1) (by omega)
  have c2 : w2.cell? ⟨w.heap.size, 2, none⟩ = some (.int .i64 s2) := R2.cell (i := 2) (by omega)
  have c3 : w2.cell? ⟨w.heap.size, 3, none⟩ = some (.int .i64 s3) := R2.cell (i := 3) (by omega)
  have c4 : w2.cell? ⟨w.heap.size, 4, none⟩ = some (.int .i64 s4) := R2.cell (i := 4) (by omega)
  have c5 : w2.cell? ⟨w.heap.size, 5, none⟩ = some (.int .i64 s5) := R2.cell (i := 5) (by omega)
  have HR2 := hide R2
  clear hb2 R2 hW1 HR1
  go_upto_if 15 with (fail)
  go_cut [1] from 13 to 17 (fun s1 wx => s1 = .slice aoj nj cap0 ∧ wx = w2)
  case first =>
    rcases hnj with ⟨h, rfl⟩ | ⟨h, rfl⟩
    · obtain ⟨bj, oj, rfl, _, _⟩ := HSJ.out 0 (by omega)
      have k1 : (100 : Int) ≤ (cap0 : Int) := by have := HCAP.out; omega
      have k2 : ¬ (cap0 : Int) < 100 := by omega
      have k3 : ¬ cap0 < 100 := by omega
      have k4 : 100 ≤ cap0 := by omega
      go_wp2_with fail
      go_meet
      case rel => exact ⟨rfl, rfl⟩
    · go_wp2_with fail
      go_meet
      case rel => exact ⟨rfl, rfl⟩
  case rest =>
    obtain ⟨e1, e2⟩ := hcut
    subst e1
    rw [e2]
    clear e2 hnj
    obtain ⟨W3, hW3⟩ : ∃ W3, w2.alloc (.cells #[.slice aoj nj cap0] 78) = W3 := ⟨_, rfl⟩
    have B23 : Below w2.heap.size w2 W3 := by rw [← hW3]; exact (Below.refl _ w2).alloc (Nat.le_refl _) _
    have z3 : W3.heap.size = w2.heap.size + 1 := by rw [← hW3]; simp
    have B3 := hide (B2.out.trans (B23.mono B2.out.size))
    have SH : SeesH W3 W3.heap.size (some ⟨w2.heap.size, 0, none⟩) 1 (fun _ => nj) (fun _ => jb) := fun h hh => by
      obtain rfl : h = 0 := by omega
      refine ⟨w2.heap.size, 0, aoj, cap0, rfl, by omega, by rw [← hW3]; simp, fun i hi => ?_⟩
      obtain ⟨b, off, e, hb, hc⟩ := HSJ.out i (by have := HNJ.out; have hi' : i < nj := hi; omega)
      exact ⟨b, off, e, by have := B3.out.size; omega, fun q hq => (B3.out.cell (p := ⟨b, off + i * 5 + q, none⟩) hb).trans (hc q hq)⟩
    have hN : 1 ≤ (Shp.mk s0 s1 s2 s3 s4 s5).f ∧ (Shp.mk s0 s1 s2 s3 s4 s5).f ≤ 64 → (((2 + s5).toNat : Nat) : Int) = 2 + (Shp.mk s0 s1 s2 s3 s4 s5).f := fun h => by
      have h1 : 1 ≤ s5 := h.1
      show (((2 + s5).toNat : Nat) : Int) = 2 + s5
      omega
    have FR := hide (fresh_any (w := W3) (sh := ⟨s0, s1, s2, s3, s4, s5⟩) (P := PA (2 + s5).toNat nj jb) (aoh := some ⟨w2.heap.size, 0, none⟩) (caph := 1) (aos := none) (caps := 0) (most := 4000) hN SH (by show 1 ≤ 9223372036854775807; decide) (fun i hi => absurd hi (Nat.not_lt_zero i)) (fun h hh j hj => HJW.out j (Nat.lt_of_lt_of_le hj HNJ.out.2)))
    rw [show (PA (2 + s5).toNat nj jb).nh = 1 from rfl, show (PA (2 + s5).toNat nj jb).ns = 0 from rfl] at FR
    have HHN := hide hN
    clear B23 SH hN
    simp only [] at FR
    go_wp2_with fail
    refine FR.out.mono ?_
    rintro e w4 ⟨hb4, sa, k, sc, wa, n, wcp, en, aa, m, ac, er, rfl, hT⟩
    have s4' := hb4.size
    have B4 := hide (B3.out.trans (hb4.mono B3.out.size))
    have R4 := hide (HR2.out.of_block ((hb4.block w.heap.size (by have := B2.out.size; omega)).trans ((show Below w2.heap.size w2 W3 from by rw [← hW3]; exact (Below.refl _ w2).alloc (Nat.le_refl _) _).block w.heap.size (by omega))))
    clear hb4 hW3 c0 c1 c2 c3 c4 c5 FR
    by_cases her : er = 0
    · subst her
      obtain ⟨r, hsr, hr1, hr2, hk, rfl, rfl, SA⟩ := told_alone HHN.out HNJ.out.1 hT
      have hsr' : s5 = (r : Int) := hsr
      subst hsr'
      clear hT hsr HHN
      obtain ⟨ab, ao', av, cv, eaa, hab, hc2, SJA⟩ := SA 0 (by decide)
      subst eaa
      rw [Nat.add_zero] at hc2
      obtain ⟨W5, hW5⟩ : ∃ W5, w4.alloc (.cells #[.slice sa k sc, .slice wa n wcp, .bool true] 32) = W5 := ⟨_, rfl⟩
      have B45 : Below w4.heap.size w4 W5 := by rw [← hW5]; exact (Below.refl _ w4).alloc (Nat.le_refl _) _
      have R5 : W5.rowIs w4.heap.size 32 3 (lrow [.slice sa k sc, .slice wa n wcp, .bool true]) := by rw [← hW5]; exact rowL_alloc w4 [.slice sa k sc, .slice wa n wcp, .bool true] _ rfl
      have z5 : W5.heap.size = w4.heap.size + 1 := by rw [← hW5]; simp
      have B5 := hide (B4.out.trans (B45.mono B4.out.size))
      have t2 : W5.cell? ⟨w4.heap.size, 2, none⟩ = some (.bool true) := R5.cell (i := 2) (by decide)
      have d2 : W5.cell? ⟨ab, ao', none⟩ = some (.slice av nj cv) := (B45.cell (p := ⟨ab, ao', none⟩) hab).trans hc2
      have hab5 : ab < W5.heap.size := by omega
      have RDA := hide (fun (wy : World) (hB : Below W5.heap.size W5 wy) => show wy.cell? ⟨ab, ao', none⟩ = some (.slice av nj cv) ∧ ab < wy.heap.size ∧ wy.cell? ⟨w.heap.size, 5, none⟩ = some (.int .i64 (r : Int)) ∧ w.heap.size < wy.heap.size from ⟨(hB.cell (p := ⟨ab, ao', none⟩) hab5).trans d2, by have := hB.size; omega, ((hB.cell (p := ⟨w.heap.size, 5, none⟩) (by show w.heap.size < _; have := B2.out.size; omega)).trans (B45.cell (p := ⟨w.heap.size, 5, none⟩) (by show w.heap.size < _; have := B2.out.size; omega))).trans (R4.out.cell (i := 5) (by decide)), by have := hB.size; have := B2.out.size; omega⟩)
      have RDJ := hide (fun (wy : World) (hB : Below W5.heap.size W5 wy) (i : Nat) (hi : i < nj) => show ∃ bj oj, aoj = some ⟨bj, oj, none⟩ ∧ bj < wy.heap.size ∧ wy.cell? ⟨bj, oj + i * 5, none⟩ = some (.int .i64 (jb i).kind) ∧ wy.cell? ⟨bj, oj + i * 5 + 4, none⟩ = some (.int .u64 (jb i).h) from by
        obtain ⟨bj, oj, e, hb, hc⟩ := HSJ.out i (by have := HNJ.out; omega)
        have hB0 := B5.out.trans (hB.mono B5.out.size)
        exact ⟨bj, oj, e, Nat.lt_of_lt_of_le hb hB0.size, (hB0.cell (p := ⟨bj, oj + i * 5, none⟩) hb).trans (hc 0 (by omega)), (hB0.cell (p := ⟨bj, oj + i * 5 + 4, none⟩) hb).trans (hc 4 (by omega))⟩)
      have RDK := hide (fun (wy : World) (hB : Below W5.heap.size W5 wy) (i : Nat) (hi : i < nj) => show ∃ b1 o1, av = some ⟨b1, o1, none⟩ ∧ b1 < wy.heap.size ∧ wy.cell? ⟨b1, o1 + i * 2, none⟩ = some (.bool (mdl r (aft r (PA (2 + (r : Int)).toNat nj jb) i) (jb i)).2.ok) ∧ wy.cell? ⟨b1, o1 + i * 2 + 1, none⟩ = some (.int .u64 (mdl r (aft r (PA (2 + (r : Int)).toNat nj jb) i) (jb i)).2.val) from by
        obtain ⟨b1, o1, e, hb, hc⟩ := SJA i hi
        exact ⟨b1, o1, e, by have := hB.size; omega, ((hB.cell (p := ⟨b1, o1 + i * 2, none⟩) (by show b1 < _; omega)).trans (B45.cell (p := ⟨b1, o1 + i * 2, none⟩) hb)).trans (hc 0 (by omega)), ((hB.cell (p := ⟨b1, o1 + i * 2 + 1, none⟩) (by show b1 < _; omega)).trans (B45.cell (p := ⟨b1, o1 + i * 2 + 1, none⟩) hb)).trans (hc 1 (by omega))⟩)
      have HK := hide hk
      have HR := hide (And.intro hr1 hr2)
      obtain ⟨iU, hiU, hzU, hsU, hyU⟩ := info46e
      clear SJA SA B45 R5 hk hc2 hab hr1 hr2
      generalize hLst : aft r (PA (2 + (r : Int)).toNat nj jb) = lst at RDK
      have hl0 : lst 0 = [] := by rw [← hLst]; rfl
      have HLS := hide (fun i => show lst (i + 1) = (mdl r (lst i) (jb i)).1 from by rw [← hLst]; rfl)
      clear hLst
      go_wp2_with fail
      clear t2 d2 hW5
      go_loopw [8, 9] (fun vl vi wr => ∃ (i : Nat) (lo : Option Addr) (cp : Nat), i ≤ nj ∧ vi = .int .i64 (i : Int) ∧ vl = .slice lo (lst i).length cp ∧ LS wr lo (lst i) cp ∧ (lst i).length ≤ i ∧ Below W5.heap.size W5 wr) (fun _ vi _ => nj - (intOf vi).toNat)
      case atStart => exact ⟨0, none, 0, Nat.zero_le _, rfl, by rw [hl0]; rfl, by rw [hl0]; exact LS.nilS _, by rw [hl0]; exact Nat.le_refl _, Below.refl _ _⟩
      case round =>
        obtain ⟨i, lo, cp, hi, rfl, rfl, hLS, hli, BK⟩ := hrel
        have HBK := hide BK
        have HL := hide hLS
        have sk := BK.size
        by_cases hlt : i < nj
        · have hlt' : (i : Int) < (nj : Int) := by omega
          have hi100 : i ≤ 100 := by have := HNJ.out; omega
          have HGK := hide (meas_a' hlt)
          obtain ⟨p1, p2, p3, p4⟩ := RDA.out wr BK
          obtain ⟨bj, oj, eaj, hbj, j0, j4⟩ := RDJ.out wr BK i hlt
          obtain ⟨b1, o1, eav, hb1, a0, a1⟩ := RDK.out wr BK i hlt
          have RDA' := RDA
          subst eaj
          subst eav
          have HS1 := hide (HLS.out i)
          have hkk := HK.out i hlt
          generalize hjb : jb i = j at j0 j4 a0 a1 HS1 hkk
          obtain ⟨l, hl⟩ : ∃ l, lst i = l := ⟨_, rfl⟩
          rw [hl] at HL hli a0 a1 HS1
          rw [hl]
          have HB1' := hide (fun o => (Below.refl wr.heap.size wr).alloc (Nat.le_refl _) o)
          have HLI := hide hli
          clear hLS BK hli
          obtain ⟨kd, ja, jbb, jc, jh⟩ := j
          have hl2 := hide hl
          have hjb2 := hide hjb
          clear hl hjb
          by_cases hk1 : kd = 1
          · subst hk1
            by_cases hfull : l.length < r
            · rw [mdl_lay (by rfl) hfull] at a0 a1 HS1
              have hfull' : (l.length : Int) < (r : Int) := by omega
              as_aux_lemma =>
                go_upto_region 19 with (fail)
                generalize hW6 : wr.alloc (.cells #[.bool false, .int .u64 0] 61) = W6
                have z6 : W6.heap.size = wr.heap.size + 1 := by rw [← hW6]; simp
                have B6 := hide (show Below wr.heap.size wr W6 from by rw [← hW6]; exact (Below.refl _ wr).alloc (Nat.le_refl _) _)
                have RW6 := hide (show W6.rowIs wr.heap.size 61 2 (lrow [.bool false, .int .u64 0]) from by rw [← hW6]; exact rowL_alloc wr [.bool false, .int .u64 0] _ rfl)
                have HL6 := hide (HL.out.below B6.out)
                have HJ4 := hide (fun (w' : World) (hB : Below W6.heap.size W6 w') => show w'.cell? ⟨bj, oj + i * 5 + 4, none⟩ = some (.int .u64 jh) from (hB.cell (p := ⟨bj, oj + i * 5 + 4, none⟩) (by show bj < _; omega)).trans ((B6.out.cell (p := ⟨bj, oj + i * 5 + 4, none⟩) hbj).trans j4))
                have MX := hide (show 0 + l.length ≤ maxLen ∧ (0 + l.length) * 8 ≤ 140737488355328 ∧ l.length + 1 ≤ maxLen ∧ (l.length + 1) * 8 ≤ 140737488355328 from by have := HLI.out; unfold maxLen; omega)
                have B56 := hide (HBK.out.trans (B6.out.mono sk))
                clear hW6 p1 p2 p3 p4 j0 j4 a0 a1 hbj hb1 HB1' hkk
                go_cut [8] from 46 to 117 (fun s8 wx => wx.ownsRow W6.heap.size 47 1 s8 (l ++ [jh]).length (PKept.wc (l ++ [jh])) ∧ Below W6.heap.size W6 wx)
                case first =>
                  refine RH.region2 (ks := [(1, 72), (3, 74), (4, 75), (5, 76), (6, 77), (7, 78)]) (vals := fun i' => match i' with
                      | 1 => .slice lo l.length cp
                      | 3 => .slice (some ⟨bj, oj, none⟩) nj cap0
                      | 4 => .int .i64 (i : Int)
                      | 5 => .pointer (some ⟨bj, oj + i * 5, none⟩)
                      | 6 => .pointer (some ⟨bj, oj + i * 5 + 4, none⟩)
                      | 7 => .int .u64 jh
                      | _ => undef) (xs := [71, 73, 79, 80, 8]) (WI := fun L s w' => AB W6 l jh (.slice lo l.length cp) (L 0) (L 1) (L 2) (L 8) (L 9) (L 10) (s 71) (s 73) (s 79) (s 80) (s 8) w') (by kernel_rfl) ?gg ?bk rfl ?dd ?xx ?loc ?w0 ?does ?fin
                  case gg =>
                    intro i' o ho
                    have hi' : i' < 11 := by have := (Array.getElem?_eq_some_iff.1 ho).1; simpa using this
                    match i', hi' with
                    | 0, _ | 1, _ | 2, _ | 3, _ | 4, _ | 5, _ | 6, _ | 7, _ | 8, _ | 9, _ | 10, _ => injection ho with ho; subst ho; rfl
                  case bk =>
                    intro i' o ho
                    have hi' : i' < 11 := by have := (Array.getElem?_eq_some_iff.1 ho).1; simpa using this
                    match i', hi' with
                    | 0, _ | 1, _ | 2, _ | 3, _ | 4, _ | 5, _ | 6, _ | 7, _ | 8, _ | 9, _ | 10, _ => injection ho with ho; subst ho; simp [Region.binds]
                  case dd =>
                    intro k' hk'
                    have hk2 : k' < 118 := by
                      simp [RetN.D] at hk'
                      omega
                    simpa using hk2
                  case xx =>
                    intro k' hk'
                    have hk2 : k' < 118 := by
                      simp at hk'
                      omega
                    simpa using hk2
                  case loc =>
                    intro L s s' w' hs h
                    rw [← hs 71 rfl, ← hs 73 rfl, ← hs 79 rfl, ← hs 80 rfl, ← hs 8 rfl]
                    exact h
                  case w0 => exact AB.start rfl
                  case does =>
                    intro i' o ho
                    have hi' : i' < 11 := by have := (Array.getElem?_eq_some_iff.1 ho).1; simpa using this
                    match i', hi' with
                    | 0, _ => injection ho with ho; subst ho; exact .own 71 rfl rfl rfl (fun L a w' K hI hL hd hk => wp_value (ex_bslice0u rfl) (hk _ _ (by show AB W6 l jh (.slice lo l.length cp) (upd L 0 true 0) (upd L 0 true 1) (upd L 0 true 2) (upd L 0 true 8) (upd L 0 true 9) (upd L 0 true 10) _ _ _ _ _ _; rw [upd_same, upd_other _ _ (show 1 ≠ 0 by decide), upd_other _ _ (show 2 ≠ 0 by decide), upd_other _ _ (show 8 ≠ 0 by decide), upd_other _ _ (show 9 ≠ 0 by decide), upd_other _ _ (show 10 ≠ 0 by decide)]; exact AB.build hI.world hL)))
                    | 1, _ => injection ho with ho; subst ho; exact .mk rfl (fun L a w' K hI hL hd hk => wp_value (ex_move rfl (hI.world.was hL)) (hk _ _ (fun _ _ => rfl) (by show AB W6 l jh (.slice lo l.length cp) (upd L 1 true 0) (upd L 1 true 1) (upd L 1 true 2) (upd L 1 true 8) (upd L 1 true 9) (upd L 1 true 10) _ _ _ _ _ _; rw [upd_other _ _ (show 0 ≠ 1 by decide), upd_same, upd_other _ _ (show 2 ≠ 1 by decide), upd_other _ _ (show 8 ≠ 1 by decide), upd_other _ _ (show 9 ≠ 1 by decide), upd_other _ _ (show 10 ≠ 1 by decide)]; exact AB.moved hI.world hL)))
                    | 2, _ => injection ho with ho; subst ho; exact .own 73 rfl rfl rfl (fun L a w' K hI hL hd hk => by have h0 := (hd ⟨0, .data⟩ (by simp) rfl); have h1 := (hd ⟨1, .data⟩ (by simp) rfl); have N0 := HL6.out.below hI.world.bel; exact wp_append_opt (.tmp 71) (.tmp 72) 24 rfl W6.heap.size 47 iU (.int .u64 0) 1 8 Try.underlying24 hiU hzU hsU hyU rfl (by decide) _ 0 [] rfl (hI.world.a h0 hL) lo l.length cp (PKept.wc l) (hI.pure 1 _ _ rfl (hd ⟨1, .data⟩ (by simp) rfl)) N0.nil (by rw [wc_len, Nat.mul_one]) N0.news (wc_one l) MX.out.1 MX.out.2.1 hI.world.bel.size (fun v w'' own gr => hk w'' v (by show AB W6 l jh (.slice lo l.length cp) (upd L 2 true 0) (upd L 2 true 1) (upd L 2 true 2) (upd L 2 true 8) (upd L 2 true 9) (upd L 2 true 10) _ _ _ _ _ _; rw [upd_other _ _ (show 0 ≠ 2 by decide), upd_other _ _ (show 1 ≠ 2 by decide), upd_same, upd_other _ _ (show 8 ≠ 2 by decide), upd_other _ _ (show 9 ≠ 2 by decide), upd_other _ _ (show 10 ≠ 2 by decide)]; exact AB.app1 hI.world hL h0 h1 own gr)))
                    | 3, _ => injection ho with ho; subst ho; exact RH.Does.read rfl (fun L s w' h => AB.skip (by decide) (by decide) (by decide) (by decide) (by decide) (by decide) h) (fun L a w' hI hd => ex_move rfl (hI.fix 1 (Reg.notD rfl) rfl))
                    | 4, _ => injection ho with ho; subst ho; exact RH.Does.read rfl (fun L s w' h => AB.skip (by decide) (by decide) (by decide) (by decide) (by decide) (by decide) h) (fun L a w' hI hd => ex_move rfl (hI.fix 9 (Reg.notD rfl) rfl))
                    | 5, _ => injection ho with ho; subst ho; exact RH.Does.read rfl (fun L s w' h => AB.skip (by decide) (by decide) (by decide) (by decide) (by decide) (by decide) h) (fun L a w' hI hd => ex_index (i := i) rfl (hI.pure 3 _ _ rfl (hd ⟨3, .data⟩ (by simp) rfl)) (hI.pure 4 _ _ rfl (hd ⟨4, .data⟩ (by simp) rfl)) hlt Try.underlying78 sizeJb)
                    | 6, _ => injection ho with ho; subst ho; exact RH.Does.read rfl (fun L s w' h => AB.skip (by decide) (by decide) (by decide) (by decide) (by decide) (by decide) h) (fun L a w' hI hd => ex_fieldo rfl (hI.pure 5 _ _ rfl (hd ⟨5, .data⟩ (by simp) rfl)) (fieldJ4 w' _ _))
                    | 7, _ => injection ho with ho; subst ho; exact RH.Does.read rfl (fun L s w' h => AB.skip (by decide) (by decide) (by decide) (by decide) (by decide) (by decide) h) (fun L a w' hI hd => ex_load rfl (hI.pure 6 _ _ rfl (hd ⟨6, .data⟩ (by simp) rfl)) (aggU8 w') (HJ4.out w' hI.world.bel))
                    | 8, _ => injection ho with ho; subst ho; exact .own 79 rfl rfl rfl (fun L a w' K hI hL hd hk => wp_value (ex_bslice1u rfl (hI.pure 7 _ _ rfl (hd ⟨7, .data⟩ (by simp) rfl))) (hk _ _ (by show AB W6 l jh (.slice lo l.length cp) (upd L 8 true 0) (upd L 8 true 1) (upd L 8 true 2) (upd L 8 true 8) (upd L 8 true 9) (upd L 8 true 10) _ _ _ _ _ _; rw [upd_other _ _ (show 0 ≠ 8 by decide), upd_other _ _ (show 1 ≠ 8 by decide), upd_other _ _ (show 2 ≠ 8 by decide), upd_same, upd_other _ _ (show 9 ≠ 8 by decide), upd_other _ _ (show 10 ≠ 8 by decide)]; exact AB.built hI.world hL)))
                    | 9, _ => injection ho with ho; subst ho; exact .own 80 rfl rfl rfl (fun L a w' K hI hL hd hk => by have h2 := (hd ⟨2, .data⟩ (by simp) rfl); have h8 := (hd ⟨8, .data⟩ (by simp) rfl); obtain ⟨q, e1, hq, hc, _⟩ := hI.world.c h8 hL; exact wp_append_opt (.tmp 73) (.tmp 79) 24 rfl W6.heap.size 47 iU (.int .u64 0) 1 8 Try.underlying24 hiU hzU hsU hyU rfl (by decide) _ l.length (PKept.wc l) rfl (hI.world.b h2 hL) (some ⟨q, 0, none⟩) 1 1 [.int .u64 jh] e1 (fun h => by cases h) rfl (fun ad e j u hj => by cases e; exact one_news hc hj) one_one MX.out.2.2.1 MX.out.2.2.2 hI.world.bel.size (fun v w'' own gr => hk w'' v (by show AB W6 l jh (.slice lo l.length cp) (upd L 9 true 0) (upd L 9 true 1) (upd L 9 true 2) (upd L 9 true 8) (upd L 9 true 9) (upd L 9 true 10) _ _ _ _ _ _; rw [upd_other _ _ (show 0 ≠ 9 by decide), upd_other _ _ (show 1 ≠ 9 by decide), upd_other _ _ (show 2 ≠ 9 by decide), upd_other _ _ (show 8 ≠ 9 by decide), upd_same, upd_other _ _ (show 10 ≠ 9 by decide)]; exact AB.app2 hI.world hL h2 h8 own gr)))
                    | 10, _ => injection ho with ho; subst ho; exact RH.Does.copy (x := 8) (y := 80) rfl rfl rfl rfl (fun ev w' => ex_assign rfl rfl) (fun L s w' h hL hd => by show AB W6 l jh (.slice lo l.length cp) (upd L 10 true 0) (upd L 10 true 1) (upd L 10 true 2) (upd L 10 true 8) (upd L 10 true 9) (upd L 10 true 10) _ _ _ _ _ _; rw [upd_other _ _ (show 0 ≠ 10 by decide), upd_other _ _ (show 1 ≠ 10 by decide), upd_other _ _ (show 2 ≠ 10 by decide), upd_other _ _ (show 8 ≠ 10 by decide), upd_other _ _ (show 9 ≠ 10 by decide), upd_same]; exact AB.told h (hd ⟨9, .data⟩ (by simp) rfl))
                  case fin =>
                    intro L a' wx hI hall
                    have hw := hI.world
                    simp only [hall 0 (by decide), hall 2 (by decide), hall 8 (by decide), hall 9 (by decide), hall 10 (by decide)] at hw
                    have hfin := hw.e rfl
                    rw [← hw.f rfl] at hfin
                    have hbelx := hw.bel
                    have ea := act_all a' 118 (by rw [hI.sz]; rfl) hI.df
                    simp only [List.range, List.range.loop, List.map] at ea
                    rw [hI.fix 0 (Reg.notD rfl) rfl, hI.fix 1 (Reg.notD rfl) rfl, hI.fix 2 (Reg.notD rfl) rfl, hI.fix 3 (Reg.notD rfl) rfl, hI.fix 4 (Reg.notD rfl) rfl, hI.fix 5 (Reg.notD rfl) rfl, hI.fix 6 (Reg.notD rfl) rfl, hI.fix 7 (Reg.notD rfl) rfl, hI.fix 9 (Reg.notD rfl) rfl, hI.fix 10 (Reg.notD rfl) rfl, hI.fix 11 (Reg.notD rfl) rfl, hI.fix 12 (Reg.notD rfl) rfl, hI.fix 13 (Reg.notD rfl) rfl, hI.fix 14 (Reg.notD rfl) rfl, hI.fix 15 (Reg.notD rfl) rfl, hI.fix 16 (Reg.notD rfl) rfl, hI.fix 17 (Reg.notD rfl) rfl, hI.fix 18 (Reg.notD rfl) rfl, hI.fix 19 (Reg.notD rfl) rfl, hI.fix 20 (Reg.notD rfl) rfl, hI.fix 21 (Reg.notD rfl) rfl, hI.fix 22 (Reg.notD rfl) rfl, hI.fix 23 (Reg.notD rfl) rfl, hI.fix 24 (Reg.notD rfl) rfl, hI.fix 25 (Reg.notD rfl) rfl, hI.fix 26 (Reg.notD rfl) rfl, hI.fix 27 (Reg.notD rfl) rfl, hI.fix 28 (Reg.notD rfl) rfl, hI.fix 29 (Reg.notD rfl) rfl, hI.fix 30 (Reg.notD rfl) rfl, hI.fix 31 (Reg.notD rfl) rfl, hI.fix 32 (Reg.notD rfl) rfl, hI.fix 33 (Reg.notD rfl) rfl, hI.fix 34 (Reg.notD rfl) rfl, hI.fix 35 (Reg.notD rfl) rfl, hI.fix 36 (Reg.notD rfl) rfl, hI.fix 37 (Reg.notD rfl) rfl, hI.fix 38 (Reg.notD rfl) rfl, hI.fix 39 (Reg.notD rfl) rfl, hI.fix 40 (Reg.notD rfl) rfl, hI.fix 41 (Reg.notD rfl) rfl, hI.fix 42 (Reg.notD rfl) rfl, hI.fix 43 (Reg.notD rfl) rfl, hI.fix 44 (Reg.notD rfl) rfl, hI.fix 45 (Reg.notD rfl) rfl, hI.fix 46 (Reg.notD rfl) rfl, hI.fix 47 (Reg.notD rfl) rfl, hI.fix 48 (Reg.notD rfl) rfl, hI.fix 49 (Reg.notD rfl) rfl, hI.fix 50 (Reg.notD rfl) rfl, hI.fix 51 (Reg.notD rfl) rfl, hI.fix 52 (Reg.notD rfl) rfl, hI.fix 53 (Reg.notD rfl) rfl, hI.fix 54 (Reg.notD rfl) rfl, hI.fix 55 (Reg.notD rfl) rfl, hI.fix 56 (Reg.notD rfl) rfl, hI.fix 57 (Reg.notD rfl) rfl, hI.fix 58 (Reg.notD rfl) rfl, hI.fix 59 (Reg.notD rfl) rfl, hI.fix 60 (Reg.notD rfl) rfl, hI.fix 61 (Reg.notD rfl) rfl, hI.fix 62 (Reg.notD rfl) rfl, hI.fix 63 (Reg.notD rfl) rfl, hI.fix 64 (Reg.notD rfl) rfl, hI.fix 65 (Reg.notD rfl) rfl, hI.fix 66 (Reg.notD rfl) rfl, hI.fix 67 (Reg.notD rfl) rfl, hI.fix 68 (Reg.notD rfl) rfl, hI.fix 69 (Reg.notD rfl) rfl, hI.fix 70 (Reg.notD rfl) rfl, hI.fix 81 (Reg.notD rfl) rfl, hI.fix 82 (Reg.notD rfl) rfl, hI.fix 83 (Reg.notD rfl) rfl, hI.fix 84 (Reg.notD rfl) rfl, hI.fix 85 (Reg.notD rfl) rfl, hI.fix 86 (Reg.notD rfl) rfl, hI.fix 87 (Reg.notD rfl) rfl, hI.fix 88 (Reg.notD rfl) rfl, hI.fix 89 (Reg.notD rfl) rfl, hI.fix 90 (Reg.notD rfl) rfl, hI.fix 91 (Reg.notD rfl) rfl, hI.fix 92 (Reg.notD rfl) rfl, hI.fix 93 (Reg.notD rfl) rfl, hI.fix 94 (Reg.notD rfl) rfl, hI.fix 95 (Reg.notD rfl) rfl, hI.fix 96 (Reg.notD rfl) rfl, hI.fix 97 (Reg.notD rfl) rfl, hI.fix 98 (Reg.notD rfl) rfl, hI.fix 99 (Reg.notD rfl) rfl, hI.fix 100 (Reg.notD rfl) rfl, hI.fix 101 (Reg.notD rfl) rfl, hI.fix 102 (Reg.notD rfl) rfl, hI.fix 103 (Reg.notD rfl) rfl, hI.fix 104 (Reg.notD rfl) rfl, hI.fix 105 (Reg.notD rfl) rfl, hI.fix 106 (Reg.notD rfl) rfl, hI.fix 107 (Reg.notD rfl) rfl, hI.fix 108 (Reg.notD rfl) rfl, hI.fix 109 (Reg.notD rfl) rfl, hI.fix 110 (Reg.notD rfl) rfl, hI.fix 111 (Reg.notD rfl) rfl, hI.fix 112 (Reg.notD rfl) rfl, hI.fix 113 (Reg.notD rfl) rfl, hI.fix 114 (Reg.notD rfl) rfl, hI.fix 115 (Reg.notD rfl) rfl, hI.fix 116 (Reg.notD rfl) rfl, hI.fix 117 (Reg.notD rfl) rfl] at ea
                    clear hI hall hw
                    generalize a'.eval (.tmp 8) = u8 at ea hfin
                    generalize a'.eval (.tmp 71) = u71 at ea
                    generalize a'.eval (.tmp 72) = u72 at ea
                    generalize a'.eval (.tmp 73) = u73 at ea
                    generalize a'.eval (.tmp 74) = u74 at ea
                    generalize a'.eval (.tmp 75) = u75 at ea
                    generalize a'.eval (.tmp 76) = u76 at ea
                    generalize a'.eval (.tmp 77) = u77 at ea
                    generalize a'.eval (.tmp 78) = u78 at ea
                    generalize a'.eval (.tmp 79) = u79 at ea
                    generalize a'.eval (.tmp 80) = u80 at ea
                    simp only [show ∀ (ts : Array Value) (ds) (i : Nat), (Act.mk ts ds).eval (.tmp i) = ts.getD i undef from fun _ _ _ => rfl] at ea
                    simp (maxSteps := 4000000) at ea
                    subst ea
                    go_wp2_with fail
                    go_meet
                    case rel => exact ⟨hfin, hbelx⟩
                case rest =>
                  obtain ⟨ownA, B6x⟩ := hcut
                  obtain ⟨W7, hW7⟩ : ∃ x, x = wc := ⟨_, rfl⟩
                  subst hW7
                  have z7 := B6x.size
                  obtain ⟨W8, hW8⟩ : ∃ W', (W7.setCell ⟨wr.heap.size, 0, none⟩ (.bool true)).setCell ⟨wr.heap.size, 1, none⟩ (.int .u64 jh) = W' := ⟨_, rfl⟩
                  have t78 : Touch W7 W8 (fun k => k = wr.heap.size) := by
                    rw [← hW8]
                    exact Touch.setCell (S := fun k => k = wr.heap.size) (Touch.setCell (S := fun k => k = wr.heap.size) (Touch.refl W7 _) ⟨wr.heap.size, 0, none⟩ (.inl rfl) _) ⟨wr.heap.size, 1, none⟩ (.inl rfl) _
                  have z8 : W8.heap.size = W7.heap.size := by rw [← hW8]; simp
                  have own8 := owns_keep ownA (fun b hb hlt => t78.block b hlt (by have := (ownA.lt b hb).1; omega))
                  obtain ⟨lo', cp', e8, LS8⟩ := LS.own own8
                  subst e8
                  have R7 := RW6.out.of_block (B6x.block wr.heap.size (by omega))
                  have R8 : W8.rowIs wr.heap.size 61 2 (lrow [.bool true, .int .u64 jh]) := by
                    rw [← hW8]
                    have := rowIs.setL (rowIs.setL R7 (i := 0) (by simp) (.bool true)) (i := 1) (by simp) (.int .u64 jh)
                    exact this
                  have B57 : Below W5.heap.size W5 W7 := B56.out.trans (B6x.mono B56.out.size)
                  have B58 : Below W5.heap.size W5 W8 := by
                    refine ⟨t78.os.trans B57.os, t78.tape.trans B57.tape, t78.output.trans B57.output, Nat.le_trans B57.size t78.size, fun k hk => ?_⟩
                    exact (t78.block k (Nat.lt_of_lt_of_le hk B57.size) (by omega)).trans (B57.block k hk)
                  have u0 : W7.cell? ⟨wr.heap.size, 0, none⟩ = some (.bool false) := R7.cell (i := 0) (by decide)
                  have u1 : W7.cell? ⟨wr.heap.size, 1, none⟩ = some (.int .u64 0) := R7.cell (i := 1) (by decide)
                  have uf0 := R7.frozen 0
                  have uf1 := R7.frozen 1
                  have x0 : W8.cell? ⟨wr.heap.size, 0, none⟩ = some (.bool true) := R8.cell (i := 0) (by decide)
                  have x1 : W8.cell? ⟨wr.heap.size, 1, none⟩ = some (.int .u64 jh) := R8.cell (i := 1) (by decide)
                  obtain ⟨p1, p2, p3, p4⟩ := RDA.out W8 B58
                  obtain ⟨bj', oj', eaj', hbj, j0, j4⟩ := RDJ.out W7 B57 i hlt
                  cases eaj'
                  obtain ⟨b1', o1', eav', hb1, a0, a1⟩ := RDK.out W8 B58 i hlt
                  cases eav'
                  rw [hl2.out, hjb2.out] at a0 a1
                  rw [hjb2.out] at j0 j4
                  rw [mdl_lay (by rfl) hfull] at a0 a1
                  have lw8 : wr.heap.size < W8.heap.size := by omega
                  have lw7 : wr.heap.size < W7.heap.size := by omega
                  have H8 := hide LS8
                  have HB58 := hide B58
                  clear R7 R8 t78 own8 ownA B57 B58 LS8 B6x
                  simp only at a0 a1 j0 j4
                  go_wp2_with fail
                  clear hW8 u0 u1 uf0 uf1
                  go_quiet (fail)
                  go_wp2_with fail
                  go_roundw
                  case rel => exact ⟨i + 1, lo', cp', hlt, vi_a, by rw [HS1.out]; first | rfl | (simp; done), by rw [HS1.out]; exact H8.out.below (below_dn (Below.refl _ _) _), by rw [HS1.out]; have := HLI.out; show (l ++ [jh]).length ≤ _; rw [List.length_append]; simp; omega, below_dn HB58.out _⟩
                  case measure => exact HGK.out
            · rw [mdl_full (by rfl) hfull] at a0 a1 HS1
              have hfull' : ¬ (l.length : Int) < (r : Int) := by omega
              as_aux_lemma =>
                go_wp2_with fail
                go_quiet (fail)
                go_wp2_with fail
                go_roundw
                case rel => exact ⟨i + 1, lo, cp, hlt, vi_a, by rw [HS1.out], by rw [HS1.out]; exact HL.out.below (below_dn (HB1'.out _) _), by rw [HS1.out]; have := HLI.out; show l.length ≤ _; omega, HBK.out.trans ((below_dn (HB1'.out _) _).mono sk)⟩
                case measure => exact HGK.out
          · by_cases hz : l.length = 0
            · rw [mdl_none (by exact hk1) hz] at a0 a1 HS1
              have hz' : (l.length : Int) = 0 := by omega
              as_aux_lemma =>
                go_wp2_with fail
                go_quiet (fail)
                go_wp2_with fail
                go_roundw
                case rel => exact ⟨i + 1, lo, cp, hlt, vi_a, by rw [HS1.out]; first | rfl | simp [hz], by rw [HS1.out]; exact HL.out.below (below_dn (HB1'.out _) _), by rw [HS1.out]; have := HLI.out; show l.length ≤ _; omega, HBK.out.trans ((below_dn (HB1'.out _) _).mono sk)⟩
                case measure => exact HGK.out
            · obtain ⟨nl, hnl⟩ : ∃ nl, l.length = nl + 1 := ⟨l.length - 1, by omega⟩
              have hcap1 := HL.out.cap
              rw [hnl] at hcap1
              have HNL := hide hnl
              have HPA := hide (pop_a hcap1 (by have := HLI.out; omega))
              by_cases hk2 : kd = 2
              · subst hk2
                obtain ⟨v, hv⟩ : ∃ v, l[l.length - 1]? = some v := ⟨_, List.getElem?_eq_getElem (by omega)⟩
                rw [mdl_draw (by rfl) hz hv] at a0 a1 HS1
                obtain ⟨bl, ol, elo, hbl, cl⟩ := HL.out.see _ v hv
                subst elo
                have HLT := hide HL.out.take
                rw [hnl] at cl HLT
                rw [show nl + 1 - 1 = nl from rfl] at cl HLT
                have hlt2 : (l.take nl).length = nl := by rw [List.length_take]; omega
                have HT2 := hide hlt2
                rw [hnl]
                have hnlb : nl ≤ 100 := by have := HLI.out; omega
                obtain ⟨-, -, -, q4, q5, q6, q7, q8⟩ := HPA.out
                rw [show (l.take (l.length - 1)) = l.take nl from by rw [hnl]; rfl] at HS1
                clear hz hv hcap1 HL hnl hlt2 hkk
                as_aux_lemma =>
                  go_wp2_with fail
                  go_quiet (fail)
                  go_wp2_with fail
                  go_roundw
                  case rel =>
                    clear q4 q5 q6 q7 q8
                    exact ⟨i + 1, _, _, hlt, vi_a, by rw [HS1.out]; show _ = Value.slice _ (l.take nl).length _; rw [HT2.out], by rw [HS1.out]; exact HLT.out.below (below_dn (HB1'.out _) _), by rw [HS1.out]; show (l.take nl).length ≤ _; have := HT2.out; have := HLI.out; have := HNL.out; omega, HBK.out.trans ((below_dn (HB1'.out _) _).mono sk)⟩
                  case measure => exact HGK.out
              · obtain ⟨v, hv⟩ : ∃ v, l[0]? = some v := ⟨_, List.getElem?_eq_getElem (by omega)⟩
                rw [mdl_steal (by exact hk1) (by exact hk2) hz hv] at a0 a1 HS1
                obtain ⟨bl, ol, elo, hbl, cl⟩ := HL.out.see _ v hv
                subst elo
                rw [Nat.add_zero] at cl
                have HLT := hide (HL.out.drop (by omega))
                have hlt2 : (l.drop 1).length = nl := by rw [List.length_drop]; omega
                have HT2 := hide hlt2
                obtain ⟨c1, hc1⟩ : ∃ c1, cp = c1 + 1 := ⟨cp - 1, by omega⟩
                subst hc1
                rw [show c1 + 1 - 1 = c1 from rfl] at HLT
                rw [hnl]
                clear hz hv HL hkk HPA
                cases c1 with
                | zero =>
                  have hnl0 : nl = 0 := by omega
                  subst hnl0
                  have HLD := hide (show LS wr (some ⟨bl, ol, none⟩) (l.drop 1) 0 from ⟨fun e => (by cases e), by rw [hlt2]; exact Nat.le_refl _, fun k v hk => by rw [List.length_eq_zero_iff.1 hlt2] at hk; simp at hk⟩)
                  clear hcap1 hnl hlt2 HLT
                  as_aux_lemma =>
                    go_wp2_with fail
                    go_quiet (fail)
                    go_wp2_with fail
                    go_roundw
                    case rel =>
                      exact ⟨i + 1, _, _, hlt, vi_a, by rw [HS1.out]; show _ = Value.slice _ (l.drop 1).length _; rw [HT2.out], by rw [HS1.out]; exact HLD.out.below (below_dn (HB1'.out _) _), by rw [HS1.out]; show (l.drop 1).length ≤ _; have := HT2.out; have := HLI.out; have := HNL.out; omega, HBK.out.trans ((below_dn (HB1'.out _) _).mono sk)⟩
                    case measure => exact HGK.out
                | succ c2 =>
                  have y1 : (1 : Int) ≤ (nl : Int) + 1 := by omega
                  have y2 : ¬ (nl : Int) + 1 < 1 := by omega
                  have y3 : (nl : Int) ≤ (c2 : Int) + 1 := by omega
                  have y4 : (0 : Int) < (nl : Int) + 1 := by omega
                  clear hcap1 hnl hlt2
                  as_aux_lemma =>
                    go_wp2_with fail
                    go_quiet (fail)
                    go_wp2_with fail
                    go_roundw
                    case rel =>
                      exact ⟨i + 1, _, _, hlt, vi_a, by rw [HS1.out]; show _ = Value.slice _ (l.drop 1).length _; rw [HT2.out], by rw [HS1.out]; exact HLT.out.below (below_dn (HB1'.out _) _), by rw [HS1.out]; show (l.drop 1).length ≤ _; have := HT2.out; have := HLI.out; have := HNL.out; omega, HBK.out.trans ((below_dn (HB1'.out _) _).mono sk)⟩
                    case measure => exact HGK.out
        · have hlt' : ¬ (i : Int) < (nj : Int) := by omega
          clear BK hLS
          go_wp2_with fail
          go_ret
          exact ⟨rfl, B5.out.trans (HBK.out.mono B5.out.size)⟩
    · have her' : (er == 0) = false := by simp [her]
      have B5 := hide (fun o => B4.out.alloc (by have := B4.out.size; exact this) o)
      rw [her']
      go_wp2_with fail
      go_ret
      exact ⟨rfl, B5.out _⟩
end Deal
end Go.Proofs.Ytkiojiibppdjjaa

namespace Go.Proofs.Ytkiojiibppdjjaa
open Go.ChangeShapes Go.WideShapes Go.ChangeAt Go.RowKit Go.Deep
namespace DAloneLaw

theorem list2'' {α : Type} {l : List α} (h : l.length = 2) : ∃ a b, l = [a, b] := by
  match l, h with
  | [a, b], _ => exact ⟨a, b, rfl⟩

/-- A slice's length is no more than its capacity. -/
theorem len_cap {H : Type} {enc : TypeId × Value → H} {W : World} {fuel : Nat} {x : DataW H × List MemPlace} {t e : TypeId} {ao : Option Addr} {n cap : Nat} (ht : Try.prog.underlying t = some (.slice e)) (hf : DataW.trod enc Try.prog W 0 (fun _ => true) true fuel t [.slice ao n cap] = some x) : n ≤ cap := by
  rcases open_slice ht hf with ⟨h1, _⟩ | ⟨a, len, cap', m, fu, D, Pl, h1, _, hlc, hm, hmm, _, hel⟩
  · cases h1
    exact Nat.le_refl _
  · cases h1
    first | exact hlc | exact hlc.1 | omega

theorem isLaw : Lift.IsLaw Rows.dealAloneSpec 2 := ⟨rfl, fun H ds h => by obtain ⟨a, b, rfl⟩ := list2'' h; rfl⟩

theorem lifted (os : Os) (started : os.Started) (H : Type) (enc : TypeId × Value → H) :
    ReturnsInHanded {} Try.checked os 6 .any (Rows.dealAloneSpec.pre6 enc Try.prog Try.f6 Rows.dealAloneRow.domain false) (Rows.dealAloneSpec.post enc Try.prog Try.f6 false true false false) := by
  refine returnsInHanded_of_change_sized (C := Try.checked) Lift.own started (by kernel_rfl) Try.func6
    (ChangeSpec.witness6 (enc := enc) (C := Try.checked) false ⟨#[], #[.agg #[.int .i64 0, .int .i64 0, .int .i64 0, .int .i64 0, .int .i64 0, .int .i64 0], .slice none 0 0], []⟩ 8 (by kernel_rfl) (by kernel_rfl) (by kernel_rfl) (by kernel_rfl)) ?_
  intro W base args ds gs before hval0 hW hcnd hsz0 _
  have hgs : gs = [] := by
    obtain ⟨_, _, _, hV, _⟩ := hW
    exact (trodVars_none hV).1
  subst hgs
  refine Lift.contract enc (tb := 4) isLaw (by kernel_rfl) (by kernel_rfl) Try.underlying4 W args ds [] before hW ?_
  intro p hA0
  have hval : ∀ (j : Nat) t v, Try.f6.params[j]? = some t → args[j]? = some v → Value.okWide Try.prog W .any base t v := hval0
  have hA : DataW.TrodAll enc Try.prog W 0 (fun _ => true) true Try.f6.params.toList args.toList ds p := hA0
  rw [Try.params6] at hA hval
  obtain ⟨v0, vs0, d0, ds0, p0, q0, hargs0, rfl, rfl, k0, hA1⟩ := trodAll_cons hA
  obtain ⟨v1, vs1, d1, ds1, p1, q1, hargs1, rfl, rfl, k1, hA2⟩ := trodAll_cons hA1
  obtain ⟨rfl, rfl, rfl⟩ := trodAll_nil hA2
  obtain rfl : args = #[v0, v1] := by cases args; simp_all
  obtain ⟨cs0, rfl, hsz0'⟩ := okWide_struct Try.underlying23 (hval 0 23 v0 rfl rfl)
  rw [ncellsSh] at hsz0'
  obtain ⟨fuel0, hf0⟩ := k0
  obtain ⟨sh, hsh⟩ := shape_t (by simpa [Value.cells] using hsz0') hf0
  obtain ⟨fuel1, hf1⟩ := k1
  obtain ⟨ao1, n1, cap1, rfl⟩ := okWide_slice Try.underlying78 (hval 1 78 v1 rfl rfl)
  have hf1' : DataW.trod enc Try.prog W 0 (fun _ => true) true fuel1 78 [.slice ao1 n1 cap1] = some _ := hf1
  obtain ⟨ao, n, cap, hcs, jb, hS, hw⟩ := open_jobs rfl hf1'
  cases hcs
  have hc := len_cap Try.underlying78 hf1'
  have e0 : (Value.agg cs0) = sh.val := by
    obtain ⟨l0⟩ := cs0
    simp [Value.cells] at hsh
    rw [hsh]; rfl
  rw [e0]
  exact Deal.alone_walk hS hc hw
end DAloneLaw

theorem dealAlone_holds : Rows.DealAloneSaid :=
  OpenClaim.holds_of_wide 6 Try.f6 rfl rfl rfl rfl rfl rfl rfl ⟨rfl, rfl, rfl, rfl, rfl⟩ rfl rfl rfl rfl rfl (by kernel_rfl) Try.func6 (by kernel_rfl)
    (of_decide_eq_true (by kernel_rfl)) (by unfold Func.isWrapper; first | (rw [if_pos (by decide +kernel)]; kernel_rfl) | (rw [if_neg (by decide +kernel)]; exact ⟨rfl, rfl⟩))
    (fun os started H enc _ => DAloneLaw.lifted os started H enc)
#print axioms dealAlone_holds
end Go.Proofs.Ytkiojiibppdjjaa
