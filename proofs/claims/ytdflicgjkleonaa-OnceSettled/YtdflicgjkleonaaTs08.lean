/-
  Lemmas: OnceY.
-/
import Derived.Test.YtdflicgjkleonaaTs07
import Derived.Deep.CutBlock
import Derived.Deep.CutRange
set_option linter.unusedVariables false
set_option linter.unusedSimpArgs false
set_option linter.unnecessarySimpa false
set_option maxRecDepth 20000
namespace Go.Proofs.Ytdflicgjkleonaa
open Go.RowKit
namespace Once

/-- What a job and its answer are to key k. -/
inductive JC (P : Par) (ans : Nat → Nat → Ans) (win : Nat → Option (Nat × Nat)) (k i n : Nat) : Prop where
  | other (h : ¬ (P.jb i n).a = (k : Int)) (nw : win k ≠ some (i, n))
  | seen (ha : (P.jb i n).a = (k : Int)) (hk : (P.jb i n).kind = 3) (e : ans i n = ⟨false, 0⟩ ∨ ans i n = ⟨false, 1⟩ ∨ ans i n = ⟨true, 2⟩) (nw : win k ≠ some (i, n))
  | does (ha : (P.jb i n).a = (k : Int)) (hk : (P.jb i n).kind = 1) (e : ans i n = ⟨true, 1⟩) (hw : win k = some (i, n))
  | fails (ha : (P.jb i n).a = (k : Int)) (hk : (P.jb i n).kind = 2) (e : ans i n = ⟨false, 1⟩) (hw : win k = some (i, n))
  | loses (ha : (P.jb i n).a = (k : Int)) (hk : (P.jb i n).kind = 1 ∨ (P.jb i n).kind = 2) (e : ans i n = ⟨true, 0⟩) (nw : win k ≠ some (i, n))

theorem jc_of {r : Nat} {P : Par} {f : Nat → Int} {done : Nat → Nat} {cur : Nat → OnS} {ans : Nat → Nat → Ans} {win : Nat → Option (Nat × Nat)} (I : Io r P f done cur ans win) (hd : ∀ h, h < P.nh → done h = P.jn h) (hok : ∀ h, h < P.nh → ∀ j, j < P.jn h → 1 ≤ (P.jb h j).kind ∧ (P.jb h j).kind ≤ 3) {k i n : Nat} (hk : k < r) (hi : i < P.nh) (hn : n < P.jn i) : JC P ans win k i n := by
  have hdn : n < done i := by rw [hd i hi]; exact hn
  have tw : win k = some (i, n) → (P.jb i n).a = (k : Int) ∧ (P.jb i n).kind ≠ 3 := fun e => by
    have h2 : f k = 2 := Classical.byContradiction fun c => by rw [I.nowin k hk c] at e; cases e
    obtain ⟨p, p1, _, _, p4, p5, _⟩ := I.two k hk h2
    rw [e] at p1
    cases p1
    exact ⟨p4, p5⟩
  by_cases ha : (P.jb i n).a = (k : Int)
  · by_cases h3 : (P.jb i n).kind = 3
    · obtain ⟨v0, v2, vo⟩ := I.seen i hi n hdn h3
      refine .seen ha h3 ?_ (fun e => (tw e).2 h3)
      generalize ans i n = x at v0 v2 vo
      obtain ⟨o, v⟩ := x
      simp only at v0 v2 vo
      have : v = 0 ∨ v = 1 ∨ v = 2 := by omega
      rcases this with rfl | rfl | rfl
      · rw [vo]; exact .inl rfl
      · rw [vo]; exact .inr (.inl rfl)
      · rw [vo]; exact .inr (.inr rfl)
    · have hk12 : (P.jb i n).kind = 1 ∨ (P.jb i n).kind = 2 := by have := hok i hi n hn; omega
      obtain ⟨_, ⟨hw, e⟩ | ⟨nw, e⟩⟩ := I.told i hi n hdn h3 k ha
      · rcases hk12 with h | h
        · exact .does ha h (by rw [e, h]; rfl) hw
        · exact .fails ha h (by rw [e, h]; rfl) hw
      · exact .loses ha hk12 e nw
  · exact .other ha (fun e => ha (tw e).1)

theorem at_rows {w : World} {aoh aa : Option Addr} {P : Par} {done : Nat → Nat} {ans : Nat → Nat → Ans} (SH : SeesH w w.heap.size aoh P.nh P.jn P.jb) (SA : SeesA w w.heap.size aa P.nh done ans) (hd : ∀ h, h < P.nh → done h = P.jn h) {i : Nat} (hi : i < P.nh) :
    ∃ bh oh av cv ba oa bv ca, aoh = some ⟨bh, oh, none⟩ ∧ aa = some ⟨ba, oa, none⟩ ∧ ∀ wr, Below w.heap.size w wr → wr.cell? ⟨bh, oh + i, none⟩ = some (.slice av (P.jn i) cv) ∧ wr.cell? ⟨ba, oa + i, none⟩ = some (.slice bv (P.jn i) ca) ∧ bh < wr.heap.size ∧ ba < wr.heap.size ∧
      ∀ n, n < P.jn i → ∃ bj oj bx ox, av = some ⟨bj, oj, none⟩ ∧ bv = some ⟨bx, ox, none⟩ ∧ bj < wr.heap.size ∧ bx < wr.heap.size ∧ bx < w.heap.size ∧ ba < w.heap.size ∧ (∀ q, q < 5 → wr.cell? ⟨bj, oj + n * 5 + q, none⟩ = some ((P.jb i n).cell q)) ∧ wr.cell? ⟨bx, ox + n * 2, none⟩ = some (.bool (ans i n).ok) ∧ wr.cell? ⟨bx, ox + n * 2 + 1, none⟩ = some (.int .u64 (ans i n).val) := by
  obtain ⟨bh, oh, av, cv, e1, l1, c1, j1⟩ := SH i hi
  obtain ⟨ba, oa, bv, ca, e2, l2, c2, j2⟩ := SA i hi
  rw [hd i hi] at c2 j2
  refine ⟨bh, oh, av, cv, ba, oa, bv, ca, e1, e2, fun wr hb => ⟨(hb.cell (p := ⟨bh, oh + i, none⟩) l1).trans c1, (hb.cell (p := ⟨ba, oa + i, none⟩) l2).trans c2, Nat.lt_of_lt_of_le l1 hb.size, Nat.lt_of_lt_of_le l2 hb.size, fun n hn => ?_⟩⟩
  obtain ⟨bj, oj, e3, l3, c3⟩ := j1 n hn
  obtain ⟨bx, ox, e4, l4, c4⟩ := j2 n hn
  exact ⟨bj, oj, bx, ox, e3, e4, Nat.lt_of_lt_of_le l3 hb.size, Nat.lt_of_lt_of_le l4 hb.size, l4, l2, fun q hq => (hb.cell (p := ⟨bj, oj + n * 5 + q, none⟩) l3).trans (c3 q hq), (hb.cell (p := ⟨bx, ox + n * 2, none⟩) l4).trans (c4 0 (by omega)), (hb.cell (p := ⟨bx, ox + n * 2 + 1, none⟩) l4).trans (c4 1 (by omega))⟩

theorem meas_b {k n : Nat} (h : k < n) : n - (intOf (.int .i64 ((k : Int) + 1))).toNat < n - (intOf (.int .i64 (k : Int))).toNat := by
  show n - ((k : Int) + 1).toNat < n - (k : Int).toNat
  omega
theorem vi_b {i : Nat} : Value.int .i64 ((i : Int) + 1) = .int .i64 ((i + 1 : Nat) : Int) := by simp

set_option maxHeartbeats 16000000 in
theorem settled_ok {w : World} {s0 s1 s2 s3 s4 : Int} {r : Nat} {aoh wa aa : Option Addr} {caph wc ac : Nat} {P : Par} {f : Nat → Int} {done : Nat → Nat} {cur : Nat → OnS} {ans : Nat → Nat → Ans} {win : Nat → Option (Nat × Nat)} (h1 : 1 ≤ r) (h2 : r ≤ 64) (hnh : P.nh ≤ 8) (hj : ∀ h, h < P.nh → P.jn h ≤ 256) (SH : SeesH w w.heap.size aoh P.nh P.jn P.jb) (SW : Sees w w.heap.size wa (2 * r) f) (SA : SeesA w w.heap.size aa P.nh done ans) (I : Io r P f done cur ans win) (hd : ∀ h, h < P.nh → done h = P.jn h) (hok : ∀ h, h < P.nh → ∀ j, j < P.jn h → 1 ≤ (P.jb h j).kind ∧ (P.jb h j).kind ≤ 3) :
    Calls Try.prog 33 #[.agg #[.int .i64 s0, .int .i64 s1, .int .i64 s2, .int .i64 s3, .int .i64 s4, .int .i64 (r : Int)], .slice aoh P.nh caph, .slice wa (2 * r) wc, .slice aa P.nh ac] w fun e w' => e = .returned (.bool true) ∧ Below w.heap.size w w' := by
  obtain ⟨W0, hW0⟩ : ∃ W0, w.alloc (.cells #[.int .i64 s0, .int .i64 s1, .int .i64 s2, .int .i64 s3, .int .i64 s4, .int .i64 (r : Int)] 23) = W0 := ⟨_, rfl⟩
  have B0 : Below w.heap.size w W0 := by rw [← hW0]; exact (Below.refl _ w).alloc (Nat.le_refl _) _
  have R0 : W0.rowIs w.heap.size 23 6 (lrow [.int .i64 s0, .int .i64 s1, .int .i64 s2, .int .i64 s3, .int .i64 s4, .int .i64 (r : Int)]) := by rw [← hW0]; exact rowL_alloc w [.int .i64 s0, .int .i64 s1, .int .i64 s2, .int .i64 s3, .int .i64 s4, .int .i64 (r : Int)] _ rfl
  have z0 : W0.heap.size = w.heap.size + 1 := by rw [← hW0]; simp
  have c5 : W0.cell? ⟨w.heap.size, 5, none⟩ = some (.int .i64 (r : Int)) := R0.cell (i := 5) (by decide)
  have RW := hide (fun (i : Nat) (hi : i < P.nh) => at_rows SH SA hd hi)
  have WD := hide (fun (k : Nat) (hk : k < 2 * r) (wr : World) (hb : Below w.heap.size w wr) => show ∃ b off, wa = some ⟨b, off, none⟩ ∧ b < wr.heap.size ∧ wr.cell? ⟨b, off + k, none⟩ = some (.int .u64 (f k)) from by
    obtain ⟨b, off, e, l, c⟩ := SW k hk
    exact ⟨b, off, e, Nat.lt_of_lt_of_le l hb.size, (hb.cell (p := ⟨b, off + k, none⟩) l).trans c⟩)
  have JCH := hide (fun (k i n : Nat) (hk : k < r) (hi : i < P.nh) (hn : n < P.jn i) => jc_of I hd hok hk hi hn)
  have LST := hide (fun (k q wv cv : Nat) (hk : k < r) (S : Sc P (win k) k P.nh 0 q wv cv) => S.last I hd hk)
  have WIN := hide (fun (k : Nat) (hk : k < r) (p : Nat × Nat) (e : win k = some p) => show p.2 < P.jn p.1 from by
    have h2 : f k = 2 := Classical.byContradiction fun c => by rw [I.nowin k hk c] at e; cases e
    obtain ⟨p', p1, p2, p3, _⟩ := I.two k hk h2
    rw [e] at p1
    cases p1
    rw [← hd _ p2]; exact p3)
  have HJ := hide hj
  have HR0 := hide R0
  have HB0 := hide B0
  have HH1 := hide h1
  clear SH SW SA I hd hok hj R0 B0 h1
  go_enter Try.func33, Try.ntmps33
  go_wp2_with fail
  go_loopw [34] (fun i wr => ∃ k : Nat, k ≤ r ∧ i = .int .i64 (k : Int) ∧ Below W0.heap.size W0 wr) (fun i _ => r - (intOf i).toNat)
  case atStart => exact ⟨0, Nat.zero_le _, rfl, Below.refl _ _⟩
  case round =>
    obtain ⟨k, hk, rfl, hb⟩ := hrel
    have HB1 := hide hb
    obtain ⟨W1, hW1⟩ : ∃ W1, W1 = wr := ⟨_, rfl⟩
    subst hW1
    clear hb
    by_cases hlt : k < r
    · have hlt' : (k : Int) < r := by omega
      go_wp2_with fail
      go_loopw [10, 11, 12, 39] (fun v10 v11 v12 v39 w2 => ∃ i q wv cv : Nat, i ≤ P.nh ∧ v39 = .int .i64 (i : Int) ∧ v10 = .int .i64 (q : Int) ∧ v11 = .int .i64 (wv : Int) ∧ v12 = .int .u64 (cv : Int) ∧ Sc P (win k) k i 0 q wv cv ∧ Below W0.heap.size W0 w2) (fun _ _ _ v39 _ => P.nh - (intOf v39).toNat)
      case atStart => exact ⟨0, 0, 0, 0, Nat.zero_le _, rfl, rfl, rfl, rfl, Sc.start, HB1.out⟩
      case round =>
        obtain ⟨i, q, wv, cv, hi, rfl, rfl, rfl, rfl, S, hb⟩ := hrel
        have HS2 := hide S
        have HB2 := hide hb
        obtain ⟨W2, hW2⟩ : ∃ W2, W2 = wr := ⟨_, rfl⟩
        subst hW2
        clear hb S
        by_cases hlt2 : i < P.nh
        · have hlt2' : (i : Int) < P.nh := by omega
          have rw0 := RW.out i hlt2
          clear RW
          obtain ⟨bh, oh, av, cv', ba, oa, bv, ca, rfl, rfl, rr⟩ := rw0
          obtain ⟨rc1, rc2, rl1, rl2, rj⟩ := rr W2 (HB0.out.trans (HB2.out.mono HB0.out.size))
          have RR := hide rr
          obtain ⟨jn, hjn⟩ : ∃ jn, P.jn i = jn := ⟨_, rfl⟩
          have h256 : jn ≤ 256 := by rw [← hjn]; exact HJ.out i hlt2
          have HJN := hide hjn
          rw [hjn] at rc1 rc2
          clear rr rj hjn
          go_wp2_with fail
          go_loopw [10, 11, 12, 54] (fun v10 v11 v12 v54 w3 => ∃ n q wv cv : Nat, n ≤ jn ∧ v54 = .int .i64 (n : Int) ∧ v10 = .int .i64 (q : Int) ∧ v11 = .int .i64 (wv : Int) ∧ v12 = .int .u64 (cv : Int) ∧ Sc P (win k) k i n q wv cv ∧ Below W0.heap.size W0 w3) (fun _ _ _ v54 _ => jn - (intOf v54).toNat)
          case atStart => exact ⟨0, q, wv, cv, Nat.zero_le _, rfl, rfl, rfl, rfl, HS2.out, HB2.out⟩
          case round =>
            clear HS2 HB2 rc1 rc2 rl1 rl2
            obtain ⟨n, q, wv, cv, hn, rfl, rfl, rfl, rfl, S, hb⟩ := hrel
            have HS3 := hide S
            have HB3 := hide hb
            obtain ⟨W3, hW3⟩ : ∃ W3, W3 = wr := ⟨_, rfl⟩
            subst hW3
            clear hb S
            by_cases hlt3 : n < jn
            · have hlt3' : (n : Int) < jn := by omega
              obtain ⟨rc1, rc2, rl1, rl2, rj⟩ := RR.out W3 (HB0.out.trans (HB3.out.mono HB0.out.size))
              have hnj : n < P.jn i := by rw [HJN.out]; exact hlt3
              obtain ⟨bj, oj, bx, ox, rfl, rfl, lj, lx, lx0, la0, cj, cx0, cx1⟩ := rj n hnj
              rw [HJN.out] at rc1 rc2
              have JJ := JCH.out k i n hlt hlt2 hnj
              have q0 := cj 0 (by decide)
              have q1 := cj 1 (by decide)
              have q2 := cj 2 (by decide)
              have q3 := cj 3 (by decide)
              have q4 := cj 4 (by decide)
              simp only [Jb.cell, Nat.add_zero] at q0 q1 q2 q3 q4
              have hqb : q ≤ 2304 := by have := HS3.out.le; omega
              clear rj cj
              cases JJ with
              | other ha nw =>
                have ha' : ((P.jb i n).a != (k : Int)) = true := by simp [ha]
                go_wp2_with fail
                go_roundw
                case rel => exact ⟨n + 1, q, wv, cv, hlt3, vi_b, rfl, rfl, rfl, HS3.out.skip (fun e => absurd e ha) nw, (by with_reducible repeat (first | exact HB3.out | refine Below.alloc ?_ (by have := HB3.out.size; simp; omega) _))⟩
                case measure => exact meas_b hlt3
              | seen ha hk e nw =>
                rcases e with e | e | e
                · rw [e] at cx0 cx1
                  rw [hk] at q0
                  rw [ha] at q1
                  simp only at cx0 cx1
                  go_wp2_with fail
                  go_roundw
                  case rel => exact ⟨n + 1, q, wv, cv, hlt3, vi_b, rfl, rfl, rfl, HS3.out.skip (fun _ => hk) nw, (by with_reducible repeat (first | exact HB3.out | refine Below.alloc ?_ (by have := HB3.out.size; simp; omega) _))⟩
                  case measure => exact meas_b hlt3
                · rw [e] at cx0 cx1
                  rw [hk] at q0
                  rw [ha] at q1
                  simp only at cx0 cx1
                  go_wp2_with fail
                  go_roundw
                  case rel => exact ⟨n + 1, q, wv, cv, hlt3, vi_b, rfl, rfl, rfl, HS3.out.skip (fun _ => hk) nw, (by with_reducible repeat (first | exact HB3.out | refine Below.alloc ?_ (by have := HB3.out.size; simp; omega) _))⟩
                  case measure => exact meas_b hlt3
                · rw [e] at cx0 cx1
                  rw [hk] at q0
                  rw [ha] at q1
                  simp only at cx0 cx1
                  go_wp2_with fail
                  go_roundw
                  case rel => exact ⟨n + 1, q, wv, cv, hlt3, vi_b, rfl, rfl, rfl, HS3.out.skip (fun _ => hk) nw, (by with_reducible repeat (first | exact HB3.out | refine Below.alloc ?_ (by have := HB3.out.size; simp; omega) _))⟩
                  case measure => exact meas_b hlt3
              | does ha hk e hw =>
                obtain ⟨rfl, rfl, SW'⟩ := HS3.out.wins hlt2 hnj ha (by rw [hk]; decide) hw
                rw [hk] at SW'
                have HSW := hide SW'
                clear SW' HS3
                rw [e] at cx0 cx1
                rw [hk] at q0
                rw [ha] at q1
                simp only at cx0 cx1
                go_wp2_with fail
                go_roundw
                case rel => exact ⟨n + 1, q + 1, 1, 1, hlt3, vi_b, vi_b, rfl, rfl, HSW.out, (by with_reducible repeat (first | exact HB3.out | refine Below.alloc ?_ (by have := HB3.out.size; simp; omega) _))⟩
                case measure => exact meas_b hlt3
              | fails ha hk e hw =>
                obtain ⟨rfl, rfl, SW'⟩ := HS3.out.wins hlt2 hnj ha (by rw [hk]; decide) hw
                rw [hk] at SW'
                have HSW := hide SW'
                clear SW' HS3
                rw [e] at cx0 cx1
                rw [hk] at q0
                rw [ha] at q1
                simp only at cx0 cx1
                go_wp2_with fail
                go_roundw
                case rel => exact ⟨n + 1, q + 1, 1, 0, hlt3, vi_b, vi_b, rfl, rfl, HSW.out, (by with_reducible repeat (first | exact HB3.out | refine Below.alloc ?_ (by have := HB3.out.size; simp; omega) _))⟩
                case measure => exact meas_b hlt3
              | loses ha hk e nw =>
                rcases hk with hk | hk
                · rw [e] at cx0 cx1
                  rw [hk] at q0
                  rw [ha] at q1
                  simp only at cx0 cx1
                  go_wp2_with fail
                  go_roundw
                  case rel => exact ⟨n + 1, q + 1, wv, cv, hlt3, vi_b, vi_b, rfl, rfl, HS3.out.lose hlt2 hnj ha (by rw [hk]; decide) nw, (by with_reducible repeat (first | exact HB3.out | refine Below.alloc ?_ (by have := HB3.out.size; simp; omega) _))⟩
                  case measure => exact meas_b hlt3
                · rw [e] at cx0 cx1
                  rw [hk] at q0
                  rw [ha] at q1
                  simp only at cx0 cx1
                  go_wp2_with fail
                  go_roundw
                  case rel => exact ⟨n + 1, q + 1, wv, cv, hlt3, vi_b, vi_b, rfl, rfl, HS3.out.lose hlt2 hnj ha (by rw [hk]; decide) nw, (by with_reducible repeat (first | exact HB3.out | refine Below.alloc ?_ (by have := HB3.out.size; simp; omega) _))⟩
                  case measure => exact meas_b hlt3
            · have hlt3' : ¬ (n : Int) < jn := by omega
              have en : n = jn := by omega
              subst en
              go_wp2_with fail
              go_roundw
              case rel =>
                refine ⟨i + 1, q, wv, cv, hlt2, vi_b, rfl, rfl, rfl, ?_, HB3.out⟩
                exact Sc.hand (by rw [HJN.out]; exact HS3.out) (HJ.out i hlt2) (fun p e => WIN.out k hlt p e)
              case measure => exact meas_b hlt2
        · have hlt2' : ¬ (i : Int) < P.nh := by omega
          have ei : i = P.nh := by omega
          have HB' := hide (HB0.out.trans (HB2.out.mono HB0.out.size))
          obtain ⟨bw, ow, rfl, lw, cw1⟩ := WD.out k (by omega) W2 HB'.out
          obtain ⟨bw', ow', ew, lw', cw2⟩ := WD.out (r + k) (by omega) W2 HB'.out
          cases ew
          have LL := LST.out k q wv cv hlt (by rw [← ei]; exact HS2.out)
          have wr1 : W2.cell? ⟨w.heap.size, 5, none⟩ = some (.int .i64 (r : Int)) := (HR0.out.of_block (HB2.out.block w.heap.size (by omega))).cell (i := 5) (by decide)
          have hqb : q ≤ 2304 := by have := HS2.out.le; omega
          clear WD LST ei
          rcases LL with ⟨rfl, rfl, rfl, f0, f1⟩ | ⟨nq, rfl, f0, f1⟩
          · rw [f0] at cw1
            rw [f1] at cw2
            go_wp2_with fail
            go_roundw
            case rel => exact ⟨k + 1, hlt, vi_b, HB2.out⟩
            case measure => exact meas_b hlt
          · rw [f0] at cw1
            rw [f1] at cw2
            by_cases e1 : q = 1
            · subst e1
              go_wp2_with fail
              go_roundw
              case rel => exact ⟨k + 1, hlt, vi_b, HB2.out⟩
              case measure => exact meas_b hlt
            · have nq' : (1 : Int) < (q : Int) := by omega
              go_wp2_with fail
              go_roundw
              case rel => exact ⟨k + 1, hlt, vi_b, HB2.out⟩
              case measure => exact meas_b hlt
    · have hlt' : ¬ (k : Int) < r := by omega
      go_wp2_with fail
      go_ret
      exact ⟨rfl, HB0.out.trans (HB1.out.mono HB0.out.size)⟩
end Once
end Go.Proofs.Ytdflicgjkleonaa
