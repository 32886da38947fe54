/-
  Lemmas: VwRa, VwRg.
-/
import Derived.Test.YtecjegjnnahddaaTp13
/-
  View: the document's inside, clean, along
-/
namespace Go.Proofs.Ytecjegjnnahddaa
open Go.RowKit
set_option linter.unusedVariables false
set_option linter.unusedSimpArgs false
set_option linter.unnecessarySimpa false
set_option maxRecDepth 20000
namespace Vw
open Shape

set_option maxHeartbeats 1000000 in
theorem inside_ok {w : World} {ao : Option Addr} {l : List Int} {n cap : Nat} {c : Int} (h : SeesN w ao l) (hn : l.length = n) (hl : n ≤ 70000) :
    Calls Try.prog 49 #[.slice ao n cap, .int .i64 c] w fun e w' => e = .returned (.bool (decide (c ∈ l))) ∧ w' = w := by
  have H := hide h
  have HN := hide hn
  clear h hn
  go_enter Try.func49, Try.ntmps49
  go_wp2_with fail
  go_loopw [5] (fun i wr => ∃ k : Nat, k ≤ n ∧ i = .int .i64 k ∧ Hid (¬ c ∈ l.take k) ∧ wr = w) (fun i _ => n - (intOf i).toNat)
  case atStart => exact ⟨0, Nat.zero_le _, rfl, show ¬ _ by simp, rfl⟩
  case round =>
    obtain ⟨k, hk, rfl, HK, rfl⟩ := hrel
    by_cases hlt : k < n
    · obtain ⟨x, hx⟩ : ∃ x, l[k]? = some x := ⟨l[k]'(by rw [HN.out]; exact hlt), List.getElem?_eq_getElem _⟩
      have HX := hide hx
      obtain ⟨b, off, rfl, hbl, hcc⟩ := H.out k x hx
      clear hx
      have hkn : (k : Int) < (n : Int) := by omega
      by_cases he : c = x
      · subst he
        go_wp2
        go_ret
        exact ⟨ret_bool (by simp [List.mem_of_getElem? HX.out]), rfl⟩
      · have he2 : (x == c) = false := by simp; exact fun h => he h.symm
        go_wp2
        go_roundw
        case rel => exact ⟨k + 1, by omega, by go_num, mem_take_more HK.out HX.out he, trivial⟩
        case measure => simp [intOf]; omega
    · have hkn : ¬ (k : Int) < (n : Int) := by omega
      go_wp2
      go_ret
      refine ⟨ret_bool ?_, rfl⟩
      have := HK.out
      rw [List.take_of_length_le (by rw [HN.out]; omega)] at this
      simp [this]

set_option maxHeartbeats 1000000 in
theorem clean_ok {w : World} {B : Nat} {ao : Option Addr} {n cap : Nat} {g : Nat → Int} (h : Sees w B ao n g) (hn : n ≤ 70000) :
    Calls Try.prog 64 #[.slice ao n cap] w fun e w' => Tells e (∀ q, q < n → g q = 0) ∧ w' = w := by
  have H := hide h
  clear h
  go_enter Try.func64, Try.ntmps64
  go_wp2_with fail
  go_loopw [3] (fun i wr => ∃ k : Nat, k ≤ n ∧ i = .int .i64 k ∧ Hid (∀ q, q < k → g q = 0) ∧ wr = w) (fun i _ => n - (intOf i).toNat)
  case atStart => exact ⟨0, Nat.zero_le _, rfl, fun q hq => absurd hq (by omega), rfl⟩
  case round =>
    obtain ⟨k, hk, rfl, HK, rfl⟩ := hrel
    by_cases hlt : k < n
    · obtain ⟨b, off, rfl, hbl, hcc⟩ := H.out k hlt
      have hkn : (k : Int) < (n : Int) := by omega
      by_cases he : g k = 0
      · have he2 : (g k != 0) = false := by simp [he]
        have HE := hide he
        clear he
        go_wp2
        go_roundw
        case rel => exact ⟨k + 1, by omega, by go_num, fun q hq => by (by_cases e : q < k); exact HK.out q e; (cases (show q = k by omega)); exact HE.out, trivial⟩
        case measure => simp [intOf]; omega
      · have he2 : (g k != 0) = true := by simp [he]
        have HE := hide he
        clear he
        go_wp2
        go_ret
        exact ⟨Tells.no (fun h1 => HE.out (h1 k hlt)), rfl⟩
    · have hkn : ¬ (k : Int) < (n : Int) := by omega
      go_wp2
      go_ret
      exact ⟨Tells.yes (fun q hq => HK.out q (by omega)), rfl⟩

/-- The links and the next words of a row of objects. -/
def Links (w : World) (oa : Option Addr) (no : Nat) (L N : Nat → Int) : Prop :=
  ∀ j, j < no → ∃ b off, oa = some ⟨b, off, none⟩ ∧ b < w.heap.size ∧ w.cell? ⟨b, off + j * 9 + 6, none⟩ = some (.int .u64 (L j)) ∧ w.cell? ⟨b, off + j * 9 + 7, none⟩ = some (.int .u64 (N j))
theorem Links.on {w w' : World} {oa : Option Addr} {no : Nat} {L N : Nat → Int} (h : Links w oa no L N) (hb : Below w.heap.size w w') : Links w' oa no L N := fun j hj => by
  obtain ⟨b, off, e, hl, h6, h7⟩ := h j hj
  exact ⟨b, off, e, Nat.lt_of_lt_of_le hl hb.size, (hb.cell (p := ⟨b, off + j * 9 + 6, none⟩) hl).trans h6, (hb.cell (p := ⟨b, off + j * 9 + 7, none⟩) hl).trans h7⟩

set_option maxHeartbeats 4000000 in
theorem along_false {w : World} {oa : Option Addr} {no cb : Nat} {L N : Nat → Int} {hd : Int} (hL : Links w oa no L N) (hno : no ≤ 70000) (hw : ∀ j, j < no → 0 ≤ L j ∧ L j < 18446744073709551616) (h0 : 0 ≤ hd) (h1 : hd < 18446744073709551616) :
    Calls Try.prog 29 #[.slice oa no cb, .int .u64 hd, .bool false] w fun e w' => (∃ fa cf, e = .returned (.tuple #[.slice fa (al no (fun c => L (c.toNat - 1) % 4294967296) no [] (hd % 4294967296)).1.length cf, .int .i64 (al no (fun c => L (c.toNat - 1) % 4294967296) no [] (hd % 4294967296)).2]) ∧ Hid (w'.ownsRow w.heap.size 3 1 (.slice fa (al no (fun c => L (c.toNat - 1) % 4294967296) no [] (hd % 4294967296)).1.length cf) (al no (fun c => L (c.toNat - 1) % 4294967296) no [] (hd % 4294967296)).1.length (ncs (al no (fun c => L (c.toNat - 1) % 4294967296) no [] (hd % 4294967296)).1))) ∧ Below w.heap.size w w' := by
  obtain ⟨nf, hnf⟩ : ∃ nf : Int → Int, (fun c : Int => L (c.toNat - 1) % 4294967296) = nf := ⟨_, rfl⟩
  rw [hnf]
  have HNF := hide hnf
  clear hnf
  obtain ⟨R, hR⟩ : ∃ R, al no nf no [] (hd % 4294967296) = R := ⟨_, rfl⟩
  rw [hR]
  have HR := hide hR
  have HL := hide hL
  have HWD := hide hw
  obtain ⟨i3, hi3, hz3, hs3, hy3⟩ := infoI
  clear hR hL hw
  go_enter Try.func29, Try.ntmps29
  go_wp2_with (go_at_call 48; refine (index_ref _ h0 h1 _).mono ?_; rintro e w1 ⟨rfl, hq⟩; obtain rfl := hq.symm)
  clear h0 h1
  go_loopw [8, 9] (fun v i wr => ∃ (seen : List Int) (cur : Int), i = .int .i64 cur ∧ Hid (wr.ownsRow w.heap.size 3 1 v seen.length (ncs seen)) ∧ Hid (Sn no seen) ∧ Hid (al no nf (no - seen.length) seen cur = R) ∧ Hid (Below w.heap.size w wr)) (fun v _ _ => no - lenV v)
  case atStart => exact ⟨[], _, rfl, World.ownsRow_nil _ _ _ _, Sn.nil no, show _ = _ by simpa using HR.out, Below.refl _ _⟩
  case round =>
    obtain ⟨seen, cur, rfl, HOW, HSN, HAL, HW⟩ := hrel
    have hlen := HSN.out.len
    obtain ⟨ao, cp, rfl⟩ := own_slice HOW.out
    have FIN := hide (show ¬ (1 ≤ cur ∧ cur ≤ (no : Int) ∧ ¬ cur ∈ seen) → R = (seen, cur) from fun hn => by have := HAL.out; rw [al_stop _ _ _ hn] at this; exact this.symm)
    by_cases q1 : 1 ≤ cur
    · by_cases q2 : cur ≤ (no : Int)
      · have CO := hide (inside_ok (w := wr) (cap := cp) (c := cur) (owns_seesN HOW.out) rfl (by omega))
        by_cases q3 : cur ∈ seen
        · have d3 : decide (cur ∈ seen) = true := by simp [q3]
          rw [d3] at CO
          have HRR := hide (FIN.out (fun h => h.2.2 q3))
          clear q3 d3
          go_wp2_with (go_at_call 49; refine CO.out.mono ?_; rintro e w1 ⟨rfl, hq⟩; obtain rfl := hq.symm)
          go_ret2
          refine ⟨⟨ao, cp, ?_, ?_⟩, HW.out⟩
          · rw [HRR.out]; rfl
          · rw [HRR.out]; exact HOW.out
        · have d3 : decide (cur ∈ seen) = false := by simp [q3]
          rw [d3] at CO
          have HSN2 := hide (HSN.out.more q1 q2 q3)
          have HAL2 := hide (show al no nf (no - (seen ++ [cur]).length) (seen ++ [cur]) (nf cur) = R from (al_go HSN.out ⟨q1, q2, q3⟩).symm.trans HAL.out)
          have hl2 := HSN2.out.len
          simp only [List.length_append, List.length_singleton] at hl2
          clear q3 d3
          obtain ⟨j, rfl⟩ : ∃ j : Nat, cur = (j : Int) + 1 := ⟨cur.toNat - 1, by omega⟩
          have hj : j < no := by omega
          have hjn : (j : Int) < (no : Int) := by omega
          have hpf := HWD.out j hj
          have HNX := hide (show nf ((j : Int) + 1) = L j % 4294967296 by
            rw [← HNF.out]
            show L (((j : Int) + 1).toNat - 1) % 4294967296 = _
            rw [show ((j : Int) + 1).toNat - 1 = j by omega])
          obtain ⟨b, off, rfl, hbl, -, -⟩ := HL.out j hj
          have HC := hide (show ∀ V : World, Below w.heap.size w V → V.cell? ⟨b, off + j * 9 + 6, none⟩ = some (.int .u64 (L j)) ∧ V.cell? ⟨b, off + j * 9 + 7, none⟩ = some (.int .u64 (N j)) from fun V hV => by
            obtain ⟨b1, o1, e1, hl, h6, h7⟩ := HL.out.on hV j hj
            cases e1
            exact ⟨h6, h7⟩)
          clear hbl
          go_wp2_with (first
            | (go_at_call 49; refine CO.out.mono ?_; rintro e w1 ⟨rfl, hq⟩; obtain rfl := hq.symm; clear hq)
            | (at_builtin; refine wpList_append_own_at _ rfl (.tmp 27) (.tmp 29) 30 rfl w.heap.size 3 i3 (.int .i64 0) 1 8 Try.underlying30 hi3 hz3 hs3 hy3 rfl (by decide) (.slice ao seen.length cp) seen.length (ncs seen) rfl (HOW.out.alloc _) ⟨wr.heap.size, 0, none⟩ 1 1 [.int .i64 ((j : Int) + 1)] rfl (by simp) (cell_one_new wr (.int .i64 ((j : Int) + 1)) 3) (by simp [Value.oneCell']) (by unfold maxLen; omega) (by omega) (by have := HW.out.size; simp; omega) ?_; intro v2 w2 hown hgr _ _; have HOW2 := hide hown; have HB2 := hide (below_grown (HW.out.alloc HW.out.size _) (HOW.out.alloc _) hgr (by have := HW.out.size; simp; omega)); clear hown hgr; obtain ⟨c6, c7⟩ := HC.out w2 HB2.out)
            | (go_at_call 48; refine (index_ref _ hpf.1 hpf.2 _).mono ?_; rintro e w4 ⟨rfl, hq⟩; obtain rfl := hq.symm; clear hq))
          go_roundw
          case rel =>
            refine ⟨seen ++ [(j : Int) + 1], _, rfl, ?_, HSN2.out, ?_, HB2.out⟩
            · have e1 := HOW2.out
              rw [← ncs_more] at e1
              show World.ownsRow _ _ _ _ _ _ _
              simpa using e1
            · show _ = _
              rw [← HNX.out]
              exact HAL2.out
          case measure =>
            obtain ⟨ao2, cp2, e2⟩ := own_slice HOW2.out
            rw [e2]
            simp only [lenV]
            omega
      · have HRR := hide (FIN.out (fun h => q2 h.2.1))
        go_wp2_with fail
        go_ret2
        refine ⟨⟨ao, cp, ?_, ?_⟩, HW.out⟩
        · rw [HRR.out]; rfl
        · rw [HRR.out]; exact HOW.out
    · have HRR := hide (FIN.out (fun h => q1 h.1))
      go_wp2_with fail
      go_ret2
      refine ⟨⟨ao, cp, ?_, ?_⟩, HW.out⟩
      · rw [HRR.out]; rfl
      · rw [HRR.out]; exact HOW.out

set_option maxHeartbeats 4000000 in
theorem along_true {w : World} {oa : Option Addr} {no cb : Nat} {L N : Nat → Int} {hd : Int} (hL : Links w oa no L N) (hno : no ≤ 70000) (hw : ∀ j, j < no → 0 ≤ N j ∧ N j < 18446744073709551616) (h0 : 0 ≤ hd) (h1 : hd < 18446744073709551616) :
    Calls Try.prog 29 #[.slice oa no cb, .int .u64 hd, .bool true] w fun e w' => (∃ fa cf, e = .returned (.tuple #[.slice fa (al no (fun c => N (c.toNat - 1) % 4294967296) no [] (hd % 4294967296)).1.length cf, .int .i64 (al no (fun c => N (c.toNat - 1) % 4294967296) no [] (hd % 4294967296)).2]) ∧ Hid (w'.ownsRow w.heap.size 3 1 (.slice fa (al no (fun c => N (c.toNat - 1) % 4294967296) no [] (hd % 4294967296)).1.length cf) (al no (fun c => N (c.toNat - 1) % 4294967296) no [] (hd % 4294967296)).1.length (ncs (al no (fun c => N (c.toNat - 1) % 4294967296) no [] (hd % 4294967296)).1))) ∧ Below w.heap.size w w' := by
  obtain ⟨nf, hnf⟩ : ∃ nf : Int → Int, (fun c : Int => N (c.toNat - 1) % 4294967296) = nf := ⟨_, rfl⟩
  rw [hnf]
  have HNF := hide hnf
  clear hnf
  obtain ⟨R, hR⟩ : ∃ R, al no nf no [] (hd % 4294967296) = R := ⟨_, rfl⟩
  rw [hR]
  have HR := hide hR
  have HL := hide hL
  have HWD := hide hw
  obtain ⟨i3, hi3, hz3, hs3, hy3⟩ := infoI
  clear hR hL hw
  go_enter Try.func29, Try.ntmps29
  go_wp2_with (go_at_call 48; refine (index_ref _ h0 h1 _).mono ?_; rintro e w1 ⟨rfl, hq⟩; obtain rfl := hq.symm)
  clear h0 h1
  go_loopw [8, 9] (fun v i wr => ∃ (seen : List Int) (cur : Int), i = .int .i64 cur ∧ Hid (wr.ownsRow w.heap.size 3 1 v seen.length (ncs seen)) ∧ Hid (Sn no seen) ∧ Hid (al no nf (no - seen.length) seen cur = R) ∧ Hid (Below w.heap.size w wr)) (fun v _ _ => no - lenV v)
  case atStart => exact ⟨[], _, rfl, World.ownsRow_nil _ _ _ _, Sn.nil no, show _ = _ by simpa using HR.out, Below.refl _ _⟩
  case round =>
    obtain ⟨seen, cur, rfl, HOW, HSN, HAL, HW⟩ := hrel
    have hlen := HSN.out.len
    obtain ⟨ao, cp, rfl⟩ := own_slice HOW.out
    have FIN := hide (show ¬ (1 ≤ cur ∧ cur ≤ (no : Int) ∧ ¬ cur ∈ seen) → R = (seen, cur) from fun hn => by have := HAL.out; rw [al_stop _ _ _ hn] at this; exact this.symm)
    by_cases q1 : 1 ≤ cur
    · by_cases q2 : cur ≤ (no : Int)
      · have CO := hide (inside_ok (w := wr) (cap := cp) (c := cur) (owns_seesN HOW.out) rfl (by omega))
        by_cases q3 : cur ∈ seen
        · have d3 : decide (cur ∈ seen) = true := by simp [q3]
          rw [d3] at CO
          have HRR := hide (FIN.out (fun h => h.2.2 q3))
          clear q3 d3
          go_wp2_with (go_at_call 49; refine CO.out.mono ?_; rintro e w1 ⟨rfl, hq⟩; obtain rfl := hq.symm)
          go_ret2
          refine ⟨⟨ao, cp, ?_, ?_⟩, HW.out⟩
          · rw [HRR.out]; rfl
          · rw [HRR.out]; exact HOW.out
        · have d3 : decide (cur ∈ seen) = false := by simp [q3]
          rw [d3] at CO
          have HSN2 := hide (HSN.out.more q1 q2 q3)
          have HAL2 := hide (show al no nf (no - (seen ++ [cur]).length) (seen ++ [cur]) (nf cur) = R from (al_go HSN.out ⟨q1, q2, q3⟩).symm.trans HAL.out)
          have hl2 := HSN2.out.len
          simp only [List.length_append, List.length_singleton] at hl2
          clear q3 d3
          obtain ⟨j, rfl⟩ : ∃ j : Nat, cur = (j : Int) + 1 := ⟨cur.toNat - 1, by omega⟩
          have hj : j < no := by omega
          have hjn : (j : Int) < (no : Int) := by omega
          have hpf := HWD.out j hj
          have HNX := hide (show nf ((j : Int) + 1) = N j % 4294967296 by
            rw [← HNF.out]
            show N (((j : Int) + 1).toNat - 1) % 4294967296 = _
            rw [show ((j : Int) + 1).toNat - 1 = j by omega])
          obtain ⟨b, off, rfl, hbl, -, -⟩ := HL.out j hj
          have HC := hide (show ∀ V : World, Below w.heap.size w V → V.cell? ⟨b, off + j * 9 + 6, none⟩ = some (.int .u64 (L j)) ∧ V.cell? ⟨b, off + j * 9 + 7, none⟩ = some (.int .u64 (N j)) from fun V hV => by
            obtain ⟨b1, o1, e1, hl, h6, h7⟩ := HL.out.on hV j hj
            cases e1
            exact ⟨h6, h7⟩)
          clear hbl
          go_wp2_with (first
            | (go_at_call 49; refine CO.out.mono ?_; rintro e w1 ⟨rfl, hq⟩; obtain rfl := hq.symm; clear hq)
            | (at_builtin; refine wpList_append_own_at _ rfl (.tmp 27) (.tmp 29) 30 rfl w.heap.size 3 i3 (.int .i64 0) 1 8 Try.underlying30 hi3 hz3 hs3 hy3 rfl (by decide) (.slice ao seen.length cp) seen.length (ncs seen) rfl (HOW.out.alloc _) ⟨wr.heap.size, 0, none⟩ 1 1 [.int .i64 ((j : Int) + 1)] rfl (by simp) (cell_one_new wr (.int .i64 ((j : Int) + 1)) 3) (by simp [Value.oneCell']) (by unfold maxLen; omega) (by omega) (by have := HW.out.size; simp; omega) ?_; intro v2 w2 hown hgr _ _; have HOW2 := hide hown; have HB2 := hide (below_grown (HW.out.alloc HW.out.size _) (HOW.out.alloc _) hgr (by have := HW.out.size; simp; omega)); clear hown hgr; obtain ⟨c6, c7⟩ := HC.out w2 HB2.out)
            | (go_at_call 48; refine (index_ref _ hpf.1 hpf.2 _).mono ?_; rintro e w4 ⟨rfl, hq⟩; obtain rfl := hq.symm; clear hq))
          go_roundw
          case rel =>
            refine ⟨seen ++ [(j : Int) + 1], _, rfl, ?_, HSN2.out, ?_, HB2.out⟩
            · have e1 := HOW2.out
              rw [← ncs_more] at e1
              show World.ownsRow _ _ _ _ _ _ _
              simpa using e1
            · show _ = _
              rw [← HNX.out]
              exact HAL2.out
          case measure =>
            obtain ⟨ao2, cp2, e2⟩ := own_slice HOW2.out
            rw [e2]
            simp only [lenV]
            omega
      · have HRR := hide (FIN.out (fun h => q2 h.2.1))
        go_wp2_with fail
        go_ret2
        refine ⟨⟨ao, cp, ?_, ?_⟩, HW.out⟩
        · rw [HRR.out]; rfl
        · rw [HRR.out]; exact HOW.out
    · have HRR := hide (FIN.out (fun h => q1 h.1))
      go_wp2_with fail
      go_ret2
      refine ⟨⟨ao, cp, ?_, ?_⟩, HW.out⟩
      · rw [HRR.out]; rfl
      · rw [HRR.out]; exact HOW.out
end Vw
end Go.Proofs.Ytecjegjnnahddaa

/-
  View: the document's Good
-/
namespace Go.Proofs.Ytecjegjnnahddaa
open Go.RowKit
set_option linter.unusedVariables false
set_option linter.unusedSimpArgs false
set_option linter.unnecessarySimpa false
set_option maxRecDepth 20000
namespace Vw
open Shape
theorem good13 {c : Cv} {a : Av} {w : World} (hS : Shows w c a) (hc : c.Ok) {u : Int} (h0 : 0 ≤ u) (h1 : u < 18446744073709551616) : Calls Try.prog 90 #[vl c a, .int .u64 u] w fun e w' => Tells e (good c u) ∧ Below w.heap.size w w' := by
  obtain ⟨aa, ca, ra, cr, wa, cw, oa, cb, fa, cf, ga, cg, qa, cq⟩ := a
  simp only [vl]
  have HS := hide hS
  have HC := hide hc
  have hno := hc.no
  clear hS hc
  obtain ⟨W0, hW0, B0, R0⟩ := vbox w c ⟨aa, ca, ra, cr, wa, cw, oa, cb, fa, cf, ga, cg, qa, cq⟩
  simp only at hW0 R0
  have HB := hide B0
  have HR := hide R0
  have l0 : w.heap.size < W0.heap.size := R0.lt

  have c6 : W0.cell? ⟨w.heap.size, 6, none⟩ = some (.slice oa c.no cb) := R0.cell (i := 6) (by decide)
  clear B0 R0
  have IX := hide (fun w1 => index_ref u h0 h1 w1)
  have GX := hide (fun w1 => gen_ref u h0 h1 w1)
  obtain ⟨x, hx⟩ : ∃ x, u % 4294967296 = x := ⟨_, rfl⟩
  obtain ⟨y, hy⟩ : ∃ y, u / 4294967296 = y := ⟨_, rfl⟩
  have hx0 : 0 ≤ x ∧ x < 4294967296 := by omega
  rw [hx] at IX
  rw [hy] at GX
  have GD := hide (show good c u ↔ 1 ≤ x ∧ x ≤ (c.no : Int) ∧ (c.ob (x.toNat - 1)).us = true ∧ (c.ob (x.toNat - 1)).ge = y by unfold good; rw [hx, hy])
  clear hx hy h0 h1
  by_cases q1 : 1 ≤ x
  · by_cases q2 : x ≤ (c.no : Int)
    · obtain ⟨k, rfl⟩ : ∃ k : Nat, x = (k : Int) + 1 := ⟨x.toNat - 1, by omega⟩
      have hko : k < c.no := by omega
      have hko2 : (k : Int) < (c.no : Int) := by omega
      have Sw := HS.out.below HB.out
      obtain ⟨b, off, ai, ci, hoa, hbl, hoc, hse⟩ := Sw.ob k hko
      simp only at hoa
      subst hoa
      cases hobx : c.ob k with
      | mk us li fi ta ag ge lk nx ns sl =>
      simp only [hobx] at hoc
      simp only [Ob.cell] at hoc
      have o0 : W0.cell? ⟨b, off + k * 9, none⟩ = some (.bool us) := by simpa using hoc 0 (by decide)
      have o1 : W0.cell? ⟨b, off + k * 9 + 1, none⟩ = some (.bool li) := by simpa using hoc 1 (by decide)
      have o2 : W0.cell? ⟨b, off + k * 9 + 2, none⟩ = some (.bool fi) := by simpa using hoc 2 (by decide)
      have o3 : W0.cell? ⟨b, off + k * 9 + 3, none⟩ = some (.bool ta) := by simpa using hoc 3 (by decide)
      have o4 : W0.cell? ⟨b, off + k * 9 + 4, none⟩ = some (.int .i64 ag) := by simpa using hoc 4 (by decide)
      have o5 : W0.cell? ⟨b, off + k * 9 + 5, none⟩ = some (.int .u64 ge) := by simpa using hoc 5 (by decide)
      have o6 : W0.cell? ⟨b, off + k * 9 + 6, none⟩ = some (.int .u64 lk) := by simpa using hoc 6 (by decide)
      have o7 : W0.cell? ⟨b, off + k * 9 + 7, none⟩ = some (.int .u64 nx) := by simpa using hoc 7 (by decide)
      have o8 : W0.cell? ⟨b, off + k * 9 + 8, none⟩ = some (.slice ai ns ci) := by simpa using hoc 8 (by decide)

      have IFF := hide (show good c u ↔ us = true ∧ ge = y by
        rw [GD.out, show ((k : Int) + 1).toNat - 1 = k by omega, hobx]
        constructor
        · intro h; exact h.2.2
        · intro h; exact ⟨q1, q2, h⟩)
      have l1 : 1 ≤ (k : Int) + 1 := by omega
      have l2 : (k : Int) + 1 ≤ (c.no : Int) := by omega
      have l3 : IntKind.i64.wrap (k : Int) = (k : Int) := by rw [IntKind.wrap_i64]; omega
      clear hobx hoc hse Sw
      go_enter Try.func90, Try.ntmps90
      go_upto_region 2 with (go_at_call 48; refine (IX.out _).mono ?_; rintro e w1 ⟨rfl, hq⟩; obtain rfl := hq.symm; clear hq)
      cases us
      · have NO := hide (show ¬ good c u from fun h => absurd (IFF.out.1 h).1 (by simp))
        go_quiet (fail)
        go_wp2
        go_ret
        exact ⟨Tells.no NO.out, below_drewN HB.out _⟩
      · by_cases hg : ge = y
        · have hg2 : (ge == y) = true := by simp [hg]
          have YES := hide (IFF.out.2 ⟨rfl, hg⟩)
          clear IFF hg
          go_quiet ((go_at_call 104; exact Calls.quiet_of_same (GX.out _)))
          go_wp2
          go_ret
          exact ⟨Tells.yes YES.out, below_drewN HB.out _⟩
        · have hg2 : (ge == y) = false := by simp [hg]
          have NO := hide (show ¬ good c u from fun h => hg (IFF.out.1 h).2)
          clear IFF hg
          go_quiet ((go_at_call 104; exact Calls.quiet_of_same (GX.out _)))
          go_wp2
          go_ret
          exact ⟨Tells.no NO.out, below_drewN HB.out _⟩
    · have NO := hide (show ¬ good c u from fun h => q2 (GD.out.1 h).2.1)
      have d2 : decide (x ≤ (c.no : Int)) = false := by simp only [decide_eq_false_iff_not]; exact q2
      have q2 := hide q2
      go_enter Try.func90, Try.ntmps90
      go_upto_region 2 with (go_at_call 48; refine (IX.out _).mono ?_; rintro e w1 ⟨rfl, hq⟩; obtain rfl := hq.symm; clear hq)
      go_quiet (fail)
      go_wp2
      go_ret
      exact ⟨Tells.no NO.out, below_drewN HB.out _⟩
  · have NO := hide (show ¬ good c u from fun h => q1 (GD.out.1 h).1)
    have d1 : decide (1 ≤ x) = false := by simp only [decide_eq_false_iff_not]; exact q1
    have q1 := hide q1
    go_enter Try.func90, Try.ntmps90
    go_upto_region 2 with (go_at_call 48; refine (IX.out _).mono ?_; rintro e w1 ⟨rfl, hq⟩; obtain rfl := hq.symm; clear hq)
    go_quiet (fail)
    go_wp2
    go_ret
    exact ⟨Tells.no NO.out, below_drewN HB.out _⟩
end Vw
end Go.Proofs.Ytecjegjnnahddaa
