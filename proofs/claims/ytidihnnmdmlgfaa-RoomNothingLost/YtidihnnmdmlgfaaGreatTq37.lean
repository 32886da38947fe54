/-
  Lemmas: RoomTO.
-/
import Derived.Test.YtidihnnmdmlgfaaGreatTq36
import Derived.Deep.CutRange
import Derived.Deep.CutBlock
import Derived.Deep.QuietTactic
namespace Go.Proofs.YtidihnnmdmlgfaaGreat
set_option maxHeartbeats 8000000
open Go.RowKit
set_option linter.unusedVariables false
set_option linter.unusedSimpArgs false
set_option linter.unnecessarySimpa false
set_option maxRecDepth 20000
section
namespace Rom
open PKept
def lastAt (l : List Int) (a : Int) : Nat → Int
  | 0 => -1
  | i + 1 => if l[i]? = some a then (i : Int) else lastAt l a i
theorem lastAt_cases (l : List Int) (a : Int) : ∀ n, lastAt l a n = -1 ∨ ∃ i : Nat, i < n ∧ lastAt l a n = (i : Int) ∧ l[i]? = some a
  | 0 => .inl rfl
  | n + 1 => by
    unfold lastAt
    by_cases h : l[n]? = some a
    · exact .inr ⟨n, Nat.lt_succ_self n, by rw [if_pos h], h⟩
    · rw [if_neg h]
      rcases lastAt_cases l a n with e | ⟨i, h1, h2, h3⟩
      · exact .inl e
      · exact .inr ⟨i, by omega, h2, h3⟩
theorem lastAt_succ {l : List Int} {a x : Int} {i : Nat} (h : l[i]? = some x) : lastAt l a (i + 1) = if x = a then (i : Int) else lastAt l a i := by
  show (if l[i]? = some a then (i : Int) else lastAt l a i) = _
  rw [h]
  simp
def ownN (jb : Nat → Jb) (dn : Nat) (an : Nat → Ans) : Nat → Option (List Int)
  | 0 => some []
  | k + 1 => match ownN jb dn an k with
    | none => none
    | some l => if (jb k).kind = 2 then (if lastAt l (jb k).a l.length < 0 then none else some (l.set (lastAt l (jb k).a l.length).toNat 0))
      else if k < dn ∧ (an k).ok = true then some (l ++ [wrap64 (bits .and .u64 (an k).val 4294967295)]) else some l
theorem ownN_len {jb : Nat → Jb} {dn : Nat} {an : Nat → Ans} : ∀ {k : Nat} {l : List Int}, ownN jb dn an k = some l → l.length ≤ k
  | 0, l, h => by cases h; exact Nat.le_refl _
  | k + 1, l, h => by
    unfold ownN at h
    cases e : ownN jb dn an k with
    | none => rw [e] at h; cases h
    | some l0 =>
      have ih := ownN_len e
      rw [e] at h
      simp only at h
      split at h
      · split at h
        · cases h
        · cases h; simp; omega
      · split at h
        · cases h; simp; omega
        · cases h; omega
theorem ownN_back {jb : Nat → Jb} {dn : Nat} {an : Nat → Ans} {k i : Nat} {l : List Int} (h : ownN jb dn an k = some l) (hk : (jb k).kind = 2) (hl : lastAt l (jb k).a l.length = (i : Int)) : ownN jb dn an (k + 1) = some (l.set i 0) := by
  show (match ownN jb dn an k with | none => none | some l => _) = _
  rw [h]
  simp only
  rw [if_pos hk, hl, if_neg (by omega)]
  simp
theorem ownN_more {jb : Nat → Jb} {dn : Nat} {an : Nat → Ans} {k : Nat} {l : List Int} (h : ownN jb dn an k = some l) (hk : ¬ (jb k).kind = 2) (hd : k < dn) (ho : (an k).ok = true) : ownN jb dn an (k + 1) = some (l ++ [wrap64 (bits .and .u64 (an k).val 4294967295)]) := by
  show (match ownN jb dn an k with | none => none | some l => _) = _
  rw [h]
  simp only
  rw [if_neg hk, if_pos ⟨hd, ho⟩]
theorem ownN_same {jb : Nat → Jb} {dn : Nat} {an : Nat → Ans} {k : Nat} {l : List Int} (h : ownN jb dn an k = some l) (hk : ¬ (jb k).kind = 2) (hn : ¬ (k < dn ∧ (an k).ok = true)) : ownN jb dn an (k + 1) = some l := by
  show (match ownN jb dn an k with | none => none | some l => _) = _
  rw [h]
  simp only
  rw [if_neg hk, if_neg hn]
theorem own_rows {w : World} {aoh aa : Option Addr} {nh : Nat} {jn dn : Nat → Nat} {jb : Nat → Nat → Jb} {an : Nat → Nat → Ans} (SH : SeesH w w.heap.size aoh nh jn jb) (SA : SeesA w w.heap.size aa nh dn an) {i : Nat} (hi : i < nh) :
    ∃ bh oh av cv ba oa bv ca, aoh = some ⟨bh, oh, none⟩ ∧ aa = some ⟨ba, oa, none⟩ ∧ ∀ wr, Below w.heap.size w wr → wr.cell? ⟨bh, oh + i, none⟩ = some (.slice av (jn i) cv) ∧ wr.cell? ⟨ba, oa + i, none⟩ = some (.slice bv (dn i) ca) ∧ bh < wr.heap.size ∧ ba < wr.heap.size ∧
      (∀ n, n < jn i → ∃ bj oj, av = some ⟨bj, oj, none⟩ ∧ bj < wr.heap.size ∧ (∀ q, q < 5 → wr.cell? ⟨bj, oj + n * 5 + q, none⟩ = some ((jb i n).cell q))) ∧
      (∀ n, n < dn i → ∃ bx ox, bv = some ⟨bx, ox, none⟩ ∧ bx < wr.heap.size ∧ wr.cell? ⟨bx, ox + n * 2, none⟩ = some (.bool (an i n).ok) ∧ wr.cell? ⟨bx, ox + n * 2 + 1, none⟩ = some (.int .u64 (an i n).val)) := by
  obtain ⟨bh, oh, av, cv, e1, l1, c1, j1⟩ := SH i hi
  obtain ⟨ba, oa, bv, ca, e2, l2, c2, j2⟩ := SA i hi
  refine ⟨bh, oh, av, cv, ba, oa, bv, ca, e1, e2, fun wr hb => ⟨(hb.cell (p := ⟨bh, oh + i, none⟩) l1).trans c1, (hb.cell (p := ⟨ba, oa + i, none⟩) l2).trans c2, Nat.lt_of_lt_of_le l1 hb.size, Nat.lt_of_lt_of_le l2 hb.size, fun n hn => ?_, fun n hn => ?_⟩⟩
  · obtain ⟨bj, oj, e3, l3, c3⟩ := j1 n hn
    exact ⟨bj, oj, e3, Nat.lt_of_lt_of_le l3 hb.size, fun q hq => (hb.cell (p := ⟨bj, oj + n * 5 + q, none⟩) l3).trans (c3 q hq)⟩
  · obtain ⟨bx, ox, e4, l4, c4⟩ := j2 n hn
    exact ⟨bx, ox, e4, Nat.lt_of_lt_of_le l4 hb.size, (hb.cell (p := ⟨bx, ox + n * 2, none⟩) l4).trans (c4 0 (by omega)), (hb.cell (p := ⟨bx, ox + n * 2 + 1, none⟩) l4).trans (c4 1 (by omega))⟩
theorem aggU8 (w : World) : (isAgg 38).run Tryz.prog w = .ok false w := by simp [go_sem]
theorem aggSAn (w : World) : (isAgg 37).run Tryz.prog w = .ok false w := by simp [go_sem]
theorem sizeAns : (Tryz.prog.info? 40).map (·.size) = some 2 := by kernel_rfl
theorem sizeSAn : (Tryz.prog.info? 37).map (·.size) = some 1 := by kernel_rfl
theorem fieldA1 (w : World) (b q : Nat) : (Instr.fieldAt 40 (.pointer (some ⟨b, q, none⟩)) 1).run Tryz.prog w = .ok (.pointer (some ⟨b, q + 1, none⟩)) w := by simp [go_sem]
theorem ex_andu {ev : Operand → Value} {o : Oper} {w : World} {x y : Operand} {v : Int} (ho : o.op = .binOp .and 38 x y 38) (hx : ev x = .int .u64 v) (hy : ev y = .int .u64 4294967295) : (execOp ev o).run Tryz.prog w = .ok (.value (.int .u64 (bits .and .u64 v 4294967295))) w := by
  simp [execOp, ho, hx, hy, go_sem]
theorem ex_convi {ev : Operand → Value} {o : Oper} {w : World} {x : Operand} {v : Int} (ho : o.op = .convert 38 3 x) (hx : ev x = .int .u64 v) : (execOp ev o).run Tryz.prog w = .ok (.value (.int .i64 (wrap64 v))) w := by
  simp [execOp, ho, hx, go_sem]
  first | exact IntKind.wrap_i64 v | (unfold wrap64; exact IntKind.wrap_i64 v)
theorem info3e : ∃ i, Tryz.prog.info? 3 = some i ∧ i.zero = some (.int .i64 0) ∧ i.size = 1 ∧ i.bytes = 8 := by
  have h : (Tryz.prog.info? 3).map (fun i => (i.zero, i.size, i.bytes)) = some (some (.int .i64 0), 1, 8) := by kernel_rfl
  obtain ⟨i, h1, h2⟩ := Option.map_eq_some_iff.1 h
  injection h2 with h2 h3
  injection h3 with h3 h4
  exact ⟨i, h1, h2, h3, h4⟩
theorem below_up {B : Nat} {a b : World} (h : Below B a b) : Below B a b := h
theorem below_dn {B : Nat} {a b : World} (h : Below B a b) (k : Nat) : Below B a (b.drewN k) := ⟨h.os, h.tape, h.output, h.size, h.block⟩
theorem meas_o {k n : Nat} (h : k < n) : n - (intOf (.int .i64 ((k : Int) + 1))).toNat < n - (intOf (.int .i64 (k : Int))).toNat := by
  show n - ((k : Int) + 1).toNat < n - (k : Int).toNat
  omega
theorem vi_o {i : Nat} : Value.int .i64 ((i : Int) + 1) = .int .i64 ((i + 1 : Nat) : Int) := by simp
theorem owned_any {w : World} {s0 s1 s2 s3 s4 s5 : Int} {ao aoh aos aa : Option Addr} {nw cap nh caph ns caps ac : Nat} {most : Int} {jn dn : Nat → Nat} {jb : Nat → Nat → Jb} {an : Nat → Nat → Ans} (hn63 : nh ≤ 256) (hj : ∀ h, h < nh → jn h ≤ 256) (SH : SeesH w w.heap.size aoh nh jn jb) (SA : SeesA w w.heap.size aa nh dn an) :
    Calls Tryz.prog 10 #[.agg #[.int .i64 s0, .int .i64 s1, .int .i64 s2, .int .i64 s3, .int .i64 s4, .int .i64 s5, .slice ao nw cap, .slice aoh nh caph, .slice aos ns caps, .int .i64 most], .slice aa nh ac] w fun e w' => (e = .returned (.bool false) ∨ (e = .returned (.bool true) ∧ ∀ h, h < nh → ∃ l, ownN (jb h) (dn h) (an h) (min (jn h) (dn h + 1)) = some l)) ∧ Below w.heap.size w w' := by
  obtain ⟨W0, hW0⟩ : ∃ W0, w.alloc (.cells #[.int .i64 s0, .int .i64 s1, .int .i64 s2, .int .i64 s3, .int .i64 s4, .int .i64 s5, .slice ao nw cap, .slice aoh nh caph, .slice aos ns caps, .int .i64 most] 28) = W0 := ⟨_, rfl⟩
  have B0 : Below w.heap.size w W0 := by rw [← hW0]; exact (Below.refl _ w).alloc (Nat.le_refl _) _
  have R0 : W0.rowIs w.heap.size 28 10 (lrow [.int .i64 s0, .int .i64 s1, .int .i64 s2, .int .i64 s3, .int .i64 s4, .int .i64 s5, .slice ao nw cap, .slice aoh nh caph, .slice aos ns caps, .int .i64 most]) := by rw [← hW0]; exact rowL_alloc w [.int .i64 s0, .int .i64 s1, .int .i64 s2, .int .i64 s3, .int .i64 s4, .int .i64 s5, .slice ao nw cap, .slice aoh nh caph, .slice aos ns caps, .int .i64 most] _ rfl
  have z0 : W0.heap.size = w.heap.size + 1 := by rw [← hW0]; simp
  have KP := hide (fun (wr : World) (hb : Below W0.heap.size W0 wr) => show wr.cell? ⟨w.heap.size, 7, none⟩ = some (.slice aoh nh caph) ∧ w.heap.size < wr.heap.size ∧ Below w.heap.size w wr from by
    have r := R0.of_block (hb.block w.heap.size R0.lt)
    exact ⟨r.cell (i := 7) (by decide), r.lt, B0.trans (hb.mono B0.size)⟩)
  have RW := hide (fun (i : Nat) (hi : i < nh) => own_rows SH SA hi)
  have HJ := hide hj
  clear SH SA hj R0 B0
  go_enter Tryz.func10, Tryz.ntmps10
  go_wp2_with fail
  clear hW0
  go_loopw [5] (fun v5 wr => ∃ i : Nat, i ≤ nh ∧ v5 = .int .i64 (i : Int) ∧ Below W0.heap.size W0 wr ∧ ∀ h, h < i → ∃ l, ownN (jb h) (dn h) (an h) (min (jn h) (dn h + 1)) = some l) (fun v5 _ => nh - (intOf v5).toNat)
  case atStart => exact ⟨0, Nat.zero_le _, rfl, Below.refl _ _, fun h hh => absurd hh (Nat.not_lt_zero h)⟩
  case round =>
    obtain ⟨i, hi, rfl, hb, hall⟩ := hrel
    have HB1 := hide hb
    have HALL := hide hall
    obtain ⟨W1, hW1⟩ : ∃ W1, W1 = wr := ⟨_, rfl⟩
    subst hW1
    clear hb hall
    by_cases hlt : i < nh
    · have hlt' : (i : Int) < (nh : Int) := by omega
      have HGI := hide (meas_o hlt)
      have rw0 := RW.out i hlt
      obtain ⟨bh, oh, av, cv, ba, oa, bv, ca, rfl, rfl, rr⟩ := rw0
      have RR := hide (fun (wr : World) (hb : Below W1.heap.size W1 wr) => And.intro (KP.out wr (HB1.out.trans (hb.mono HB1.out.size))) (rr wr (KP.out wr (HB1.out.trans (hb.mono HB1.out.size))).2.2))
      obtain ⟨jn0, hjn⟩ : ∃ j, jn i = j := ⟨_, rfl⟩
      obtain ⟨dn0, hdn⟩ : ∃ j, dn i = j := ⟨_, rfl⟩
      have h256 : jn0 ≤ 256 := by rw [← hjn]; exact HJ.out i hlt
      have HALL2 := hide (fun (l : List Int) (hl : ownN (jb i) dn0 (an i) (min jn0 (dn0 + 1)) = some l) (h : Nat) (hh : h < i + 1) => show ∃ l, ownN (jb h) (dn h) (an h) (min (jn h) (dn h + 1)) = some l from by
        rcases Nat.lt_or_ge h i with h1 | h1
        · exact HALL.out h h1
        · obtain rfl : h = i := by omega
          rw [hjn, hdn]; exact ⟨l, hl⟩)
      rw [hjn, hdn] at RR
      generalize jb i = jbi at RR HALL2
      generalize an i = ani at RR HALL2
      have c7 := (RR.out W1 (Below.refl _ _)).1.1
      have l7 := (RR.out W1 (Below.refl _ _)).1.2.1
      clear RW rr hjn hdn HALL KP
      go_wp2_with fail
      clear c7 l7
      go_loopw [6, 7] (fun v6 v7 w2 => ∃ (k : Nat) (L : List Int), k ≤ jn0 ∧ k ≤ dn0 + 1 ∧ v7 = .int .i64 (k : Int) ∧ IL w2 W1.heap.size v6 L ∧ ownN jbi dn0 ani k = some L ∧ Below W1.heap.size W1 w2) (fun _ v7 _ => jn0 - (intOf v7).toNat)
      case atStart => exact ⟨0, [], Nat.zero_le _, Nat.zero_le _, rfl, IL.nil _ _, rfl, Below.refl _ _⟩
      case round =>
        obtain ⟨k, L, hk, hkd1, rfl, hI, hN, hb⟩ := hrel
        have HB2 := hide hb
        have HI := hide hI
        have HN := hide hN
        obtain ⟨W2, hW2⟩ : ∃ W2, W2 = wr := ⟨_, rfl⟩
        subst hW2
        obtain ⟨⟨c7, l7, _⟩, d1, d2, l1, l2, _, _⟩ := RR.out W2 hb
        have sk := hb.size
        obtain ⟨lo, cp, rfl⟩ := hI.cons
        have hLk := ownN_len hN
        clear hb hI hN
        by_cases hk1 : k < jn0
        · have hk1' : (k : Int) < (jn0 : Int) := by omega
          have HGK := hide (meas_o hk1)
          by_cases hk2 : k ≤ dn0
          · have hk2' : (k : Int) ≤ (dn0 : Int) := by omega
            obtain ⟨_, _, _, _, _, J, A⟩ := RR.out W2 HB2.out
            obtain ⟨bj, oj, rfl, lj, cj⟩ := J k hk1
            have A' := hide A
            have j0 := cj 0 (by omega)
            have j1 := cj 1 (by omega)
            have j2 := cj 2 (by omega)
            have j3 := cj 3 (by omega)
            have j4 := cj 4 (by omega)
            have HNX := hide (And.intro (fun i => @ownN_back jbi dn0 ani k i L HN.out) (And.intro (@ownN_more jbi dn0 ani k L HN.out) (@ownN_same jbi dn0 ani k L HN.out)))
            generalize hjb : jbi k = jj at j0 j1 j2 j3 j4 HNX
            obtain ⟨kd, ja, jbb, jc, jh⟩ := jj
            simp only [Jb.cell] at j0 j1 j2 j3 j4 HNX
            rw [Nat.add_zero] at j0
            obtain ⟨W3, hW3⟩ : ∃ W3, W2.alloc (.cells #[.int .i64 kd, .int .i64 ja, .int .i64 jbb, .int .i64 jc, .int .u64 jh] 42) = W3 := ⟨_, rfl⟩
            have R3 : W3.rowIs W2.heap.size 42 5 (lrow [.int .i64 kd, .int .i64 ja, .int .i64 jbb, .int .i64 jc, .int .u64 jh]) := by rw [← hW3]; exact rowL_alloc W2 [.int .i64 kd, .int .i64 ja, .int .i64 jbb, .int .i64 jc, .int .u64 jh] _ rfl
            have B3 : Below W2.heap.size W2 W3 := by rw [← hW3]; exact (Below.refl _ W2).alloc (Nat.le_refl _) _
            have z3 : W3.heap.size = W2.heap.size + 1 := by rw [← hW3]; simp
            have y0 : W3.cell? ⟨W2.heap.size, 0, none⟩ = some (.int .i64 kd) := R3.cell (i := 0) (by decide)
            have y1 : W3.cell? ⟨W2.heap.size, 1, none⟩ = some (.int .i64 ja) := R3.cell (i := 1) (by decide)
            have l3 : W2.heap.size < W3.heap.size := by omega
            have HB3 := hide (HB2.out.trans (B3.mono sk))
            have I3 := hide (HI.out.keep B3)
            have HR3 := hide R3
            have RA := hide B3
            clear HI hjb cj J A B3 R3
            go_upto_region 9 with (fail)
            clear j0 j1 j2 j3 j4 hW3 lj
            by_cases hkd : kd = 2
            · subst hkd
              go_wp2_with fail
              go_loopw [9, 10] (fun v9 v10 w3 => ∃ q m : Nat, q ≤ L.length ∧ v10 = .int .i64 (q : Int) ∧ v9 = .int .i64 (lastAt L ja q) ∧ w3 = W3.drewN m) (fun _ v10 _ => L.length - (intOf v10).toNat)
              case atStart => exact ⟨0, 0, Nat.zero_le _, rfl, rfl, rfl⟩
              case round =>
                obtain ⟨q, m, hq, rfl, rfl, rfl⟩ := hrel
                by_cases hq1 : q < L.length
                · have hq1' : (q : Int) < (L.length : Int) := by omega
                  have HGQ := hide (meas_o hq1)
                  obtain ⟨g, x, rfl, hg, hgs, hx, hx', hfz⟩ := I3.out.at_ hq1
                  have hq256 : q ≤ 256 := by omega
                  have HL1 := hide (lastAt_succ (a := ja) hx')
                  rw [Nat.zero_add] at hx
                  clear hx' hfz
                  generalize lastAt L ja q = lq at HL1 ⊢
                  by_cases hxa : x = ja
                  · have hxa' : (x == ja) = true := by simpa using hxa
                    have hL1 := HL1.out
                    rw [if_pos hxa] at hL1
                    have HL2 := hide hL1
                    clear hL1 HL1
                    go_wp2_with fail
                    go_quiet (fail)
                    go_wp2_with fail
                    go_roundw
                    case rel => exact ⟨q + 1, _, hq1, vi_o, by rw [HL2.out], rfl⟩
                    case measure => exact HGQ.out
                  · have hxa' : (x == ja) = false := by simpa using hxa
                    have hL1 := HL1.out
                    rw [if_neg hxa] at hL1
                    have HL2 := hide hL1
                    clear hL1 HL1
                    go_wp2_with fail
                    go_quiet (fail)
                    go_wp2_with fail
                    go_roundw
                    case rel => exact ⟨q + 1, _, hq1, vi_o, by rw [HL2.out], rfl⟩
                    case measure => exact HGQ.out
                · have hq1' : ¬ (q : Int) < (L.length : Int) := by omega
                  obtain rfl : q = L.length := by omega
                  rcases lastAt_cases L ja L.length with hlast | ⟨q0, hq0, hlast, -⟩
                  · rw [hlast]
                    have HF := hide ((RR.out _ (below_dn HB3.out m)).1.2.2)
                    go_wp2_with fail
                    go_ret
                    exact ⟨.inl rfl, HF.out⟩
                  · rw [hlast]
                    have hnlt : ¬ ((q0 : Int) < 0) := by omega
                    have hq0' : (q0 : Int) < (L.length : Int) := by omega
                    obtain ⟨g, x, rfl, hg, hgs, hx, hx', hfz⟩ := I3.out.at_ hq0
                    have IP := hide ((I3.out.keep (below_dn (Below.refl _ W3) m)).put q0 0)
                    have BP := hide ((below_dn HB3.out m).setCell (p := ⟨g, 0 + q0, none⟩) hg (.int .i64 0))
                    have NB := hide (HNX.out.1 q0 (by trivial) hlast)
                    rw [Nat.zero_add] at hx hfz IP BP
                    have e9 : (Value.int IntKind.i64 (q0 : Int)) = .int .i64 (q0 : Int) := rfl
                    clear hx' hlast
                    go_wp2_with fail
                    go_roundw
                    case rel => exact ⟨k + 1, L.set q0 0, hk1, by omega, vi_o, by simpa using IP.out, NB.out, BP.out⟩
                    case measure => exact HGK.out
            · have hkd' : (kd == 2) = false := by simpa using hkd
              by_cases hd : k < dn0
              · have hd' : (k : Int) < (dn0 : Int) := by omega
                obtain ⟨bx, ox, rfl, lx, x0, x1⟩ := A'.out k hd
                generalize ani k = a0 at x0 x1 HNX
                obtain ⟨ok, uv⟩ := a0
                simp only at x0 x1 HNX
                obtain ⟨-, -, d2', -, l2', -, -⟩ := RR.out W3 HB3.out
                have x0' := (show W3.cell? ⟨bx, ox + k * 2, none⟩ = some (.bool ok) from ((RA.out.cell (p := ⟨bx, ox + k * 2, none⟩) lx).trans x0))
                have x1' := (show W3.cell? ⟨bx, ox + k * 2 + 1, none⟩ = some (.int .u64 uv) from ((RA.out.cell (p := ⟨bx, ox + k * 2 + 1, none⟩) lx).trans x1))
                have lx3 : bx < W3.heap.size := by omega
                clear x0 x1 lx d2 l2
                cases ok with
                | false =>
                  have NS := hide (HNX.out.2.2 hkd (fun h => absurd h.2 (by decide)))
                  go_wp2_with fail
                  go_roundw
                  case rel => exact ⟨k + 1, L, hk1, by omega, vi_o, I3.out, NS.out, HB3.out⟩
                  case measure => exact HGK.out
                | true =>
                  obtain ⟨xv, hxv⟩ : ∃ x, wrap64 (bits .and .u64 uv 4294967295) = x := ⟨_, rfl⟩
                  have NM := hide (show ownN jbi dn0 ani (k + 1) = some (L ++ [xv]) from by rw [← hxv]; exact HNX.out.2.1 hkd hd rfl)
                  go_upto_region 20 with (fail)
                  clear c7 d1 y0 y1
                  have HA6 := hide (fun (w' : World) (hB : Below W3.heap.size W3 w') => show w'.cell? ⟨ba, oa + i * 1, none⟩ = some (.slice (some ⟨bx, ox, none⟩) dn0 ca) ∧ w'.cell? ⟨bx, ox + k * 2 + 1, none⟩ = some (.int .u64 uv) from by
                    rw [Nat.mul_one]
                    exact ⟨(hB.cell (p := ⟨ba, oa + i, none⟩) l2').trans d2', (hB.cell (p := ⟨bx, ox + k * 2 + 1, none⟩) lx3).trans x1'⟩)
                  have HL6 := I3
                  have MX := hide (show 0 + L.length ≤ maxLen ∧ (0 + L.length) * 8 ≤ 140737488355328 ∧ L.length + 1 ≤ maxLen ∧ (L.length + 1) * 8 ≤ 140737488355328 from by unfold maxLen; omega)
                  obtain ⟨iU, hiU, hzU, hsU, hyU⟩ := info3e
                  have hi0 : i < nh := hlt
                  have hkd0 : k < dn0 := hd
                  refine RH.region2 (ks := [(1, 85), (3, 87), (4, 88), (5, 89), (6, 90), (7, 91), (8, 92), (9, 93), (10, 94), (11, 95), (12, 96)]) (vals := fun i' => match i' with
                      | 1 => .slice lo L.length cp
                      | 3 => .slice (some ⟨ba, oa, none⟩) nh ac
                      | 4 => .int .i64 (i : Int)
                      | 5 => .pointer (some ⟨ba, oa + i * 1, none⟩)
                      | 6 => .slice (some ⟨bx, ox, none⟩) dn0 ca
                      | 7 => .int .i64 (k : Int)
                      | 8 => .pointer (some ⟨bx, ox + k * 2, none⟩)
                      | 9 => .pointer (some ⟨bx, ox + k * 2 + 1, none⟩)
                      | 10 => .int .u64 uv
                      | 11 => .int .u64 (bits .and .u64 uv 4294967295)
                      | 12 => .int .i64 xv
                      | _ => undef) (xs := [84, 86, 97, 98, 6]) (WI := fun L1 s w' => AB W3 L xv (.slice lo L.length cp) (L1 0) (L1 1) (L1 2) (L1 13) (L1 14) (L1 15) (s 84) (s 86) (s 97) (s 98) (s 6) w') (by kernel_rfl) ?gg ?bk rfl ?dd ?xx ?loc ?w0 ?does ?fin
                  case gg =>
                    intro i' o ho
                    have hi' : i' < 16 := by have := (Array.getElem?_eq_some_iff.1 ho).1; simpa using this
                    match i', hi' with
                    | 0, _ | 1, _ | 2, _ | 3, _ | 4, _ | 5, _ | 6, _ | 7, _ | 8, _ | 9, _ | 10, _ | 11, _ | 12, _ | 13, _ | 14, _ | 15, _ => injection ho with ho; subst ho; rfl
                  case bk =>
                    intro i' o ho
                    have hi' : i' < 16 := by have := (Array.getElem?_eq_some_iff.1 ho).1; simpa using this
                    match i', hi' with
                    | 0, _ | 1, _ | 2, _ | 3, _ | 4, _ | 5, _ | 6, _ | 7, _ | 8, _ | 9, _ | 10, _ | 11, _ | 12, _ | 13, _ | 14, _ | 15, _ => injection ho with ho; subst ho; simp [Region.binds]
                  case dd =>
                    intro k' hk'
                    have hk2 : k' < 99 := by
                      simp [RetN.D] at hk'
                      omega
                    simpa using hk2
                  case xx =>
                    intro k' hk'
                    have hk2 : k' < 99 := by
                      simp at hk'
                      omega
                    simpa using hk2
                  case loc =>
                    intro L1 s s' w' hs h
                    rw [← hs 84 rfl, ← hs 86 rfl, ← hs 97 rfl, ← hs 98 rfl, ← hs 6 rfl]
                    exact h
                  case w0 => exact AB.start rfl
                  case does =>
                    intro i' o ho
                    have hi' : i' < 16 := by have := (Array.getElem?_eq_some_iff.1 ho).1; simpa using this
                    match i', hi' with
                    | 0, _ => injection ho with ho; subst ho; exact .own 84 rfl rfl rfl (fun L1 a w' K hI hL hd hk => wp_value (ex_bslice0i rfl) (hk _ _ (by show AB W3 L xv (.slice lo L.length cp) (upd L1 0 true 0) (upd L1 0 true 1) (upd L1 0 true 2) (upd L1 0 true 13) (upd L1 0 true 14) (upd L1 0 true 15) _ _ _ _ _ _; rw [upd_same, upd_other _ _ (show 1 ≠ 0 by decide), upd_other _ _ (show 2 ≠ 0 by decide), upd_other _ _ (show 13 ≠ 0 by decide), upd_other _ _ (show 14 ≠ 0 by decide), upd_other _ _ (show 15 ≠ 0 by decide)]; exact AB.build hI.world hL)))
                    | 1, _ => injection ho with ho; subst ho; exact .mk rfl (fun L1 a w' K hI hL hd hk => wp_value (ex_move rfl (hI.world.was hL)) (hk _ _ (fun _ _ => rfl) (by show AB W3 L xv (.slice lo L.length cp) (upd L1 1 true 0) (upd L1 1 true 1) (upd L1 1 true 2) (upd L1 1 true 13) (upd L1 1 true 14) (upd L1 1 true 15) _ _ _ _ _ _; rw [upd_other _ _ (show 0 ≠ 1 by decide), upd_same, upd_other _ _ (show 2 ≠ 1 by decide), upd_other _ _ (show 13 ≠ 1 by decide), upd_other _ _ (show 14 ≠ 1 by decide), upd_other _ _ (show 15 ≠ 1 by decide)]; exact AB.moved hI.world hL)))
                    | 2, _ => injection ho with ho; subst ho; exact .own 86 rfl rfl rfl (fun L1 a w' K hI hL hd hk => by have h0 := (hd ⟨0, .data⟩ (by simp) rfl); have h1 := (hd ⟨1, .data⟩ (by simp) rfl); have N0 := (HL6.out.keep (below_up hI.world.bel)).news; exact wp_append_opt (.tmp 84) (.tmp 85) 26 rfl W3.heap.size 3 iU (.int .i64 0) 1 8 Tryz.underlying26 hiU hzU hsU hyU rfl (by decide) _ 0 [] rfl (hI.world.a h0 hL) lo L.length cp (ics L) (hI.pure 1 _ _ rfl (hd ⟨1, .data⟩ (by simp) rfl)) N0.1 (by rw [ics_len, Nat.mul_one]) N0.2 (ics_one L) MX.out.1 MX.out.2.1 hI.world.bel.size (fun v w'' own gr => hk w'' v (by show AB W3 L xv (.slice lo L.length cp) (upd L1 2 true 0) (upd L1 2 true 1) (upd L1 2 true 2) (upd L1 2 true 13) (upd L1 2 true 14) (upd L1 2 true 15) _ _ _ _ _ _; rw [upd_other _ _ (show 0 ≠ 2 by decide), upd_other _ _ (show 1 ≠ 2 by decide), upd_same, upd_other _ _ (show 13 ≠ 2 by decide), upd_other _ _ (show 14 ≠ 2 by decide), upd_other _ _ (show 15 ≠ 2 by decide)]; exact AB.app1 hI.world hL h0 h1 own gr)))
                    | 3, _ => injection ho with ho; subst ho; exact RH.Does.read rfl (fun L1 s w' h => AB.skip (by decide) (by decide) (by decide) (by decide) (by decide) (by decide) h) (fun L1 a w' hI hd => ex_move rfl (hI.fix 1 (Reg.notD rfl) rfl))
                    | 4, _ => injection ho with ho; subst ho; exact RH.Does.read rfl (fun L1 s w' h => AB.skip (by decide) (by decide) (by decide) (by decide) (by decide) (by decide) h) (fun L1 a w' hI hd => ex_move rfl (hI.fix 5 (Reg.notD rfl) rfl))
                    | 5, _ => injection ho with ho; subst ho; exact RH.Does.read rfl (fun L1 s w' h => AB.skip (by decide) (by decide) (by decide) (by decide) (by decide) (by decide) h) (fun L1 a w' hI hd => ex_index (i := i) rfl (hI.pure 3 _ _ rfl (hd ⟨3, .data⟩ (by simp) rfl)) (hI.pure 4 _ _ rfl (hd ⟨4, .data⟩ (by simp) rfl)) hi0 Tryz.underlying33 sizeSAn)
                    | 6, _ => injection ho with ho; subst ho; exact RH.Does.read rfl (fun L1 s w' h => AB.skip (by decide) (by decide) (by decide) (by decide) (by decide) (by decide) h) (fun L1 a w' hI hd => ex_load rfl (hI.pure 5 _ _ rfl (hd ⟨5, .data⟩ (by simp) rfl)) (aggSAn w') (HA6.out w' hI.world.bel).1)
                    | 7, _ => injection ho with ho; subst ho; exact RH.Does.read rfl (fun L1 s w' h => AB.skip (by decide) (by decide) (by decide) (by decide) (by decide) (by decide) h) (fun L1 a w' hI hd => ex_move rfl (hI.fix 7 (Reg.notD rfl) rfl))
                    | 8, _ => injection ho with ho; subst ho; exact RH.Does.read rfl (fun L1 s w' h => AB.skip (by decide) (by decide) (by decide) (by decide) (by decide) (by decide) h) (fun L1 a w' hI hd => ex_index (i := k) rfl (hI.pure 6 _ _ rfl (hd ⟨6, .data⟩ (by simp) rfl)) (hI.pure 7 _ _ rfl (hd ⟨7, .data⟩ (by simp) rfl)) hkd0 Tryz.underlying37 sizeAns)
                    | 9, _ => injection ho with ho; subst ho; exact RH.Does.read rfl (fun L1 s w' h => AB.skip (by decide) (by decide) (by decide) (by decide) (by decide) (by decide) h) (fun L1 a w' hI hd => ex_fieldo rfl (hI.pure 8 _ _ rfl (hd ⟨8, .data⟩ (by simp) rfl)) (fieldA1 w' _ _))
                    | 10, _ => injection ho with ho; subst ho; exact RH.Does.read rfl (fun L1 s w' h => AB.skip (by decide) (by decide) (by decide) (by decide) (by decide) (by decide) h) (fun L1 a w' hI hd => ex_load rfl (hI.pure 9 _ _ rfl (hd ⟨9, .data⟩ (by simp) rfl)) (aggU8 w') (HA6.out w' hI.world.bel).2)
                    | 11, _ => injection ho with ho; subst ho; exact RH.Does.read rfl (fun L1 s w' h => AB.skip (by decide) (by decide) (by decide) (by decide) (by decide) (by decide) h) (fun L1 a w' hI hd => ex_andu rfl (hI.pure 10 _ _ rfl (hd ⟨10, .data⟩ (by simp) rfl)) rfl)
                    | 12, _ => injection ho with ho; subst ho; exact RH.Does.read rfl (fun L1 s w' h => AB.skip (by decide) (by decide) (by decide) (by decide) (by decide) (by decide) h) (fun L1 a w' hI hd => by rw [← hxv]; exact ex_convi rfl (hI.pure 11 _ _ rfl (hd ⟨11, .data⟩ (by simp) rfl)))
                    | 13, _ => injection ho with ho; subst ho; exact .own 97 rfl rfl rfl (fun L1 a w' K hI hL hd hk => wp_value (ex_bslice1i rfl (hI.pure 12 _ _ rfl (hd ⟨12, .data⟩ (by simp) rfl))) (hk _ _ (by show AB W3 L xv (.slice lo L.length cp) (upd L1 13 true 0) (upd L1 13 true 1) (upd L1 13 true 2) (upd L1 13 true 13) (upd L1 13 true 14) (upd L1 13 true 15) _ _ _ _ _ _; rw [upd_other _ _ (show 0 ≠ 13 by decide), upd_other _ _ (show 1 ≠ 13 by decide), upd_other _ _ (show 2 ≠ 13 by decide), upd_same, upd_other _ _ (show 14 ≠ 13 by decide), upd_other _ _ (show 15 ≠ 13 by decide)]; exact AB.built hI.world hL)))
                    | 14, _ => injection ho with ho; subst ho; exact .own 98 rfl rfl rfl (fun L1 a w' K hI hL hd hk => by have h2 := (hd ⟨2, .data⟩ (by simp) rfl); have h8 := (hd ⟨13, .data⟩ (by simp) rfl); obtain ⟨q, e1, hq, hc, _⟩ := hI.world.c h8 hL; exact wp_append_opt (.tmp 86) (.tmp 97) 26 rfl W3.heap.size 3 iU (.int .i64 0) 1 8 Tryz.underlying26 hiU hzU hsU hyU rfl (by decide) _ L.length (ics L) rfl (hI.world.b h2 hL) (some ⟨q, 0, none⟩) 1 1 [.int .i64 xv] e1 (fun h => by cases h) rfl (fun ad e j u hj => by cases e; exact one_newi hc hj) one_onei MX.out.2.2.1 MX.out.2.2.2 hI.world.bel.size (fun v w'' own gr => hk w'' v (by show AB W3 L xv (.slice lo L.length cp) (upd L1 14 true 0) (upd L1 14 true 1) (upd L1 14 true 2) (upd L1 14 true 13) (upd L1 14 true 14) (upd L1 14 true 15) _ _ _ _ _ _; rw [upd_other _ _ (show 0 ≠ 14 by decide), upd_other _ _ (show 1 ≠ 14 by decide), upd_other _ _ (show 2 ≠ 14 by decide), upd_other _ _ (show 13 ≠ 14 by decide), upd_same, upd_other _ _ (show 15 ≠ 14 by decide)]; exact AB.app2 hI.world hL h2 h8 own gr)))
                    | 15, _ => injection ho with ho; subst ho; exact RH.Does.copy (x := 6) (y := 98) rfl rfl rfl rfl (fun ev w' => ex_assign rfl rfl) (fun L1 s w' h hL hd => by show AB W3 L xv (.slice lo L.length cp) (upd L1 15 true 0) (upd L1 15 true 1) (upd L1 15 true 2) (upd L1 15 true 13) (upd L1 15 true 14) (upd L1 15 true 15) _ _ _ _ _ _; rw [upd_other _ _ (show 0 ≠ 15 by decide), upd_other _ _ (show 1 ≠ 15 by decide), upd_other _ _ (show 2 ≠ 15 by decide), upd_other _ _ (show 13 ≠ 15 by decide), upd_other _ _ (show 14 ≠ 15 by decide), upd_same]; exact AB.told h (hd ⟨14, .data⟩ (by simp) rfl))
                  case fin =>
                    intro L1 a' wx hI hall
                    have hw := hI.world
                    simp only [hall 0 (by decide), hall 2 (by decide), hall 13 (by decide), hall 14 (by decide), hall 15 (by decide)] at hw
                    have hfin := hw.e rfl
                    rw [← hw.f rfl] at hfin
                    have hbelx := hw.bel
                    have ea := act_all a' 99 (by rw [hI.sz]; rfl) hI.df
                    simp only [List.range, List.range.loop, List.map] at ea
                    rw [hI.fix 0 (Reg.notD rfl) rfl, hI.fix 1 (Reg.notD rfl) rfl, hI.fix 2 (Reg.notD rfl) rfl, hI.fix 3 (Reg.notD rfl) rfl, hI.fix 4 (Reg.notD rfl) rfl, hI.fix 5 (Reg.notD rfl) rfl, hI.fix 7 (Reg.notD rfl) rfl, hI.fix 8 (Reg.notD rfl) rfl, hI.fix 9 (Reg.notD rfl) rfl, hI.fix 10 (Reg.notD rfl) rfl, hI.fix 11 (Reg.notD rfl) rfl, hI.fix 12 (Reg.notD rfl) rfl, hI.fix 13 (Reg.notD rfl) rfl, hI.fix 14 (Reg.notD rfl) rfl, hI.fix 15 (Reg.notD rfl) rfl, hI.fix 16 (Reg.notD rfl) rfl, hI.fix 17 (Reg.notD rfl) rfl, hI.fix 18 (Reg.notD rfl) rfl, hI.fix 19 (Reg.notD rfl) rfl, hI.fix 20 (Reg.notD rfl) rfl, hI.fix 21 (Reg.notD rfl) rfl, hI.fix 22 (Reg.notD rfl) rfl, hI.fix 23 (Reg.notD rfl) rfl, hI.fix 24 (Reg.notD rfl) rfl, hI.fix 25 (Reg.notD rfl) rfl, hI.fix 26 (Reg.notD rfl) rfl, hI.fix 27 (Reg.notD rfl) rfl, hI.fix 28 (Reg.notD rfl) rfl, hI.fix 29 (Reg.notD rfl) rfl, hI.fix 30 (Reg.notD rfl) rfl, hI.fix 31 (Reg.notD rfl) rfl, hI.fix 32 (Reg.notD rfl) rfl, hI.fix 33 (Reg.notD rfl) rfl, hI.fix 34 (Reg.notD rfl) rfl, hI.fix 35 (Reg.notD rfl) rfl, hI.fix 36 (Reg.notD rfl) rfl, hI.fix 37 (Reg.notD rfl) rfl, hI.fix 38 (Reg.notD rfl) rfl, hI.fix 39 (Reg.notD rfl) rfl, hI.fix 40 (Reg.notD rfl) rfl, hI.fix 41 (Reg.notD rfl) rfl, hI.fix 42 (Reg.notD rfl) rfl, hI.fix 43 (Reg.notD rfl) rfl, hI.fix 44 (Reg.notD rfl) rfl, hI.fix 45 (Reg.notD rfl) rfl, hI.fix 46 (Reg.notD rfl) rfl, hI.fix 47 (Reg.notD rfl) rfl, hI.fix 48 (Reg.notD rfl) rfl, hI.fix 49 (Reg.notD rfl) rfl, hI.fix 50 (Reg.notD rfl) rfl, hI.fix 51 (Reg.notD rfl) rfl, hI.fix 52 (Reg.notD rfl) rfl, hI.fix 53 (Reg.notD rfl) rfl, hI.fix 54 (Reg.notD rfl) rfl, hI.fix 55 (Reg.notD rfl) rfl, hI.fix 56 (Reg.notD rfl) rfl, hI.fix 57 (Reg.notD rfl) rfl, hI.fix 58 (Reg.notD rfl) rfl, hI.fix 59 (Reg.notD rfl) rfl, hI.fix 60 (Reg.notD rfl) rfl, hI.fix 61 (Reg.notD rfl) rfl, hI.fix 62 (Reg.notD rfl) rfl, hI.fix 63 (Reg.notD rfl) rfl, hI.fix 64 (Reg.notD rfl) rfl, hI.fix 65 (Reg.notD rfl) rfl, hI.fix 66 (Reg.notD rfl) rfl, hI.fix 67 (Reg.notD rfl) rfl, hI.fix 68 (Reg.notD rfl) rfl, hI.fix 69 (Reg.notD rfl) rfl, hI.fix 70 (Reg.notD rfl) rfl, hI.fix 71 (Reg.notD rfl) rfl, hI.fix 72 (Reg.notD rfl) rfl, hI.fix 73 (Reg.notD rfl) rfl, hI.fix 74 (Reg.notD rfl) rfl, hI.fix 75 (Reg.notD rfl) rfl, hI.fix 76 (Reg.notD rfl) rfl, hI.fix 77 (Reg.notD rfl) rfl, hI.fix 78 (Reg.notD rfl) rfl, hI.fix 79 (Reg.notD rfl) rfl, hI.fix 80 (Reg.notD rfl) rfl, hI.fix 81 (Reg.notD rfl) rfl, hI.fix 82 (Reg.notD rfl) rfl, hI.fix 83 (Reg.notD rfl) rfl] at ea
                    clear hI hall hw
                    generalize a'.eval (.tmp 6) = u6 at ea hfin
                    generalize a'.eval (.tmp 84) = u84 at ea
                    generalize a'.eval (.tmp 85) = u85 at ea
                    generalize a'.eval (.tmp 86) = u86 at ea
                    generalize a'.eval (.tmp 87) = u87 at ea
                    generalize a'.eval (.tmp 88) = u88 at ea
                    generalize a'.eval (.tmp 89) = u89 at ea
                    generalize a'.eval (.tmp 90) = u90 at ea
                    generalize a'.eval (.tmp 91) = u91 at ea
                    generalize a'.eval (.tmp 92) = u92 at ea
                    generalize a'.eval (.tmp 93) = u93 at ea
                    generalize a'.eval (.tmp 94) = u94 at ea
                    generalize a'.eval (.tmp 95) = u95 at ea
                    generalize a'.eval (.tmp 96) = u96 at ea
                    generalize a'.eval (.tmp 97) = u97 at ea
                    generalize a'.eval (.tmp 98) = u98 at ea
                    simp only [show ∀ (ts : Array Value) (ds) (i : Nat), (Act.mk ts ds).eval (.tmp i) = ts.getD i undef from fun _ _ _ => rfl] at ea
                    simp (maxSteps := 4000000) at ea
                    subst ea
                    have HO := hide (show IL wx W1.heap.size u6 (L ++ [xv]) from (IL.of_own hfin (by simp)).down (by omega))
                    have HB6 := hide (HB3.out.trans (hbelx.mono (by omega)))
                    clear hfin hbelx
                    go_wp2_with fail
                    go_roundw
                    case rel => exact ⟨k + 1, L ++ [xv], hk1, by omega, vi_o, HO.out, NM.out, HB6.out⟩
                    case measure => exact HGK.out
              · have hd' : ¬ (k : Int) < (dn0 : Int) := by omega
                have NS := hide (HNX.out.2.2 hkd (fun h => absurd h.1 hd))
                obtain ⟨-, -, d2', -, l2', -, -⟩ := RR.out W3 HB3.out
                clear d2 l2
                go_wp2_with fail
                go_roundw
                case rel => exact ⟨k + 1, L, hk1, by omega, vi_o, I3.out, NS.out, HB3.out⟩
                case measure => exact HGK.out
          · have hk2' : ¬ (k : Int) ≤ (dn0 : Int) := by omega
            go_wp2_with fail
            go_roundw
            case rel => exact ⟨i + 1, hlt, vi_o, HB1.out.trans (HB2.out.mono HB1.out.size), HALL2.out L (by rw [show min jn0 (dn0 + 1) = k by omega]; exact HN.out)⟩
            case measure => exact HGI.out
        · have hk1' : ¬ (k : Int) < (jn0 : Int) := by omega
          go_wp2_with fail
          go_roundw
          case rel => exact ⟨i + 1, hlt, vi_o, HB1.out.trans (HB2.out.mono HB1.out.size), HALL2.out L (by rw [show min jn0 (dn0 + 1) = k by omega]; exact HN.out)⟩
          case measure => exact HGI.out
    · have hlt' : ¬ (i : Int) < (nh : Int) := by omega
      obtain ⟨c7, l7, B7⟩ := KP.out W1 HB1.out
      have HB7 := hide B7
      obtain rfl : i = nh := by omega
      clear B7
      go_wp2_with fail
      go_ret
      exact ⟨.inr ⟨rfl, HALL.out⟩, HB7.out⟩
end Rom
end
end Go.Proofs.YtidihnnmdmlgfaaGreat
