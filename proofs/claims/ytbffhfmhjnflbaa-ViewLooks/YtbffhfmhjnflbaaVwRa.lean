/-
  View: the document's inside, clean, along
-/
import Derived.Test.YtbffhfmhjnflbaaVwSm
namespace Go.Proofs.Ytbffhfmhjnflbaa
open Go.RowKit
set_option linter.unusedVariables false
set_option linter.unusedSimpArgs false
set_option linter.unnecessarySimpa false
set_option maxRecDepth 20000
namespace Vw
open Shape

set_option maxHeartbeats 1000000 in
theorem inside_ok {w : World} {ao : Option Addr} {l : List Int} {n cap : Nat} {c : Int} (h : SeesN w ao l) (hn : l.length = n) (hl : n ≤ 70000) :
    Calls Try.prog 49 #[.slice ao n cap, .int .i64 c] w fun e w' => e = .returned (.bool (decide (c ∈ l))) ∧ w' = w := by
  have H := hide h
  have HN := hide hn
  clear h hn
  go_enter Try.func49, Try.ntmps49
  go_wp2_with fail
  go_loopw [5] (fun i wr => ∃ k : Nat, k ≤ n ∧ i = .int .i64 k ∧ Hid (¬ c ∈ l.take k) ∧ wr = w) (fun i _ => n - (intOf i).toNat)
  case atStart => exact ⟨0, Nat.zero_le _, rfl, show ¬ _ by simp, rfl⟩
  case round =>
    obtain ⟨k, hk, rfl, HK, rfl⟩ := hrel
    by_cases hlt : k < n
    · obtain ⟨x, hx⟩ : ∃ x, l[k]? = some x := ⟨l[k]'(by rw [HN.out]; exact hlt), List.getElem?_eq_getElem _⟩
      have HX := hide hx
      obtain ⟨b, off, rfl, hbl, hcc⟩ := H.out k x hx
      clear hx
      have hkn : (k : Int) < (n : Int) := by omega
      by_cases he : c = x
      · subst he
        go_wp2
        go_ret
        exact ⟨ret_bool (by simp [List.mem_of_getElem? HX.out]), rfl⟩
      · have he2 : (x == c) = false := by simp; exact fun h => he h.symm
        go_wp2
        go_roundw
        case rel => exact ⟨k + 1, by omega, by go_num, mem_take_more HK.out HX.out he, trivial⟩
        case measure => simp [intOf]; omega
    · have hkn : ¬ (k : Int) < (n : Int) := by omega
      go_wp2
      go_ret
      refine ⟨ret_bool ?_, rfl⟩
      have := HK.out
      rw [List.take_of_length_le (by rw [HN.out]; omega)] at this
      simp [this]

set_option maxHeartbeats 1000000 in
theorem clean_ok {w : World} {B : Nat} {ao : Option Addr} {n cap : Nat} {g : Nat → Int} (h : Sees w B ao n g) (hn : n ≤ 70000) :
    Calls Try.prog 64 #[.slice ao n cap] w fun e w' => Tells e (∀ q, q < n → g q = 0) ∧ w' = w := by
  have H := hide h
  clear h
  go_enter Try.func64, Try.ntmps64
  go_wp2_with fail
  go_loopw [3] (fun i wr => ∃ k : Nat, k ≤ n ∧ i = .int .i64 k ∧ Hid (∀ q, q < k → g q = 0) ∧ wr = w) (fun i _ => n - (intOf i).toNat)
  case atStart => exact ⟨0, Nat.zero_le _, rfl, fun q hq => absurd hq (by omega), rfl⟩
  case round =>
    obtain ⟨k, hk, rfl, HK, rfl⟩ := hrel
    by_cases hlt : k < n
    · obtain ⟨b, off, rfl, hbl, hcc⟩ := H.out k hlt
      have hkn : (k : Int) < (n : Int) := by omega
      by_cases he : g k = 0
      · have he2 : (g k != 0) = false := by simp [he]
        have HE := hide he
        clear he
        go_wp2
        go_roundw
        case rel => exact ⟨k + 1, by omega, by go_num, fun q hq => by (by_cases e : q < k); exact HK.out q e; (cases (show q = k by omega)); exact HE.out, trivial⟩
        case measure => simp [intOf]; omega
      · have he2 : (g k != 0) = true := by simp [he]
        have HE := hide he
        clear he
        go_wp2
        go_ret
        exact ⟨Tells.no (fun h1 => HE.out (h1 k hlt)), rfl⟩
    · have hkn : ¬ (k : Int) < (n : Int) := by omega
      go_wp2
      go_ret
      exact ⟨Tells.yes (fun q hq => HK.out q (by omega)), rfl⟩

/-- The links and the next words of a row of objects. -/
def Links (w : World) (oa : Option Addr) (no : Nat) (L N : Nat → Int) : Prop :=
  ∀ j, j < no → ∃ b off, oa = some ⟨b, off, none⟩ ∧ b < w.heap.size ∧ w.cell? ⟨b, off + j * 9 + 6, none⟩ = some (.int .u64 (L j)) ∧ w.cell? ⟨b, off + j * 9 + 7, none⟩ = some (.int .u64 (N j))
theorem Links.on {w w' : World} {oa : Option Addr} {no : Nat} {L N : Nat → Int} (h : Links w oa no L N) (hb : Below w.heap.size w w') : Links w' oa no L N := fun j hj => by
  obtain ⟨b, off, e, hl, h6, h7⟩ := h j hj
  exact ⟨b, off, e, Nat.lt_of_lt_of_le hl hb.size, (hb.cell (p := ⟨b, off + j * 9 + 6, none⟩) hl).trans h6, (hb.cell (p := ⟨b, off + j * 9 + 7, none⟩) hl).trans h7⟩

set_option maxHeartbeats 4000000 in
theorem along_false {w : World} {oa : Option Addr} {no cb : Nat} {L N : Nat → Int} {hd : Int} (hL : Links w oa no L N) (hno : no ≤ 70000) (hw : ∀ j, j < no → 0 ≤ L j ∧ L j < 18446744073709551616) (h0 : 0 ≤ hd) (h1 : hd < 18446744073709551616) :
    Calls Try.prog 29 #[.slice oa no cb, .int .u64 hd, .bool false] w fun e w' => (∃ fa cf, e = .returned (.tuple #[.slice fa (al no (fun c => L (c.toNat - 1) % 4294967296) no [] (hd % 4294967296)).1.length cf, .int .i64 (al no (fun c => L (c.toNat - 1) % 4294967296) no [] (hd % 4294967296)).2]) ∧ Hid (w'.ownsRow w.heap.size 3 1 (.slice fa (al no (fun c => L (c.toNat - 1) % 4294967296) no [] (hd % 4294967296)).1.length cf) (al no (fun c => L (c.toNat - 1) % 4294967296) no [] (hd % 4294967296)).1.length (ncs (al no (fun c => L (c.toNat - 1) % 4294967296) no [] (hd % 4294967296)).1))) ∧ Below w.heap.size w w' := by
  obtain ⟨nf, hnf⟩ : ∃ nf : Int → Int, (fun c : Int => L (c.toNat - 1) % 4294967296) = nf := ⟨_, rfl⟩
  rw [hnf]
  have HNF := hide hnf
  clear hnf
  obtain ⟨R, hR⟩ : ∃ R, al no nf no [] (hd % 4294967296) = R := ⟨_, rfl⟩
  rw [hR]
  have HR := hide hR
  have HL := hide hL
  have HWD := hide hw
  obtain ⟨i3, hi3, hz3, hs3, hy3⟩ := infoI
  clear hR hL hw
  go_enter Try.func29, Try.ntmps29
  go_wp2_with (go_at_call 48; refine (index_ref _ h0 h1 _).mono ?_; rintro e w1 ⟨rfl, hq⟩; obtain rfl := hq.symm)
  clear h0 h1
  go_loopw [8, 9] (fun v i wr => ∃ (seen : List Int) (cur : Int), i = .int .i64 cur ∧ Hid (wr.ownsRow w.heap.size 3 1 v seen.length (ncs seen)) ∧ Hid (Sn no seen) ∧ Hid (al no nf (no - seen.length) seen cur = R) ∧ Hid (Below w.heap.size w wr)) (fun v _ _ => no - lenV v)
  case atStart => exact ⟨[], _, rfl, World.ownsRow_nil _ _ _ _, Sn.nil no, show _ = _ by simpa using HR.out, Below.refl _ _⟩
  case round =>
    obtain ⟨seen, cur, rfl, HOW, HSN, HAL, HW⟩ := hrel
    have hlen := HSN.out.len
    obtain ⟨ao, cp, rfl⟩ := own_slice HOW.out
    have FIN := hide (show ¬ (1 ≤ cur ∧ cur ≤ (no : Int) ∧ ¬ cur ∈ seen) → R = (seen, cur) from fun hn => by have := HAL.out; rw [al_stop _ _ _ hn] at this; exact this.symm)
    by_cases q1 : 1 ≤ cur
    · by_cases q2 : cur ≤ (no : Int)
      · have CO := hide (inside_ok (w := wr) (cap := cp) (c := cur) (owns_seesN HOW.out) rfl (by omega))
        by_cases q3 : cur ∈ seen
        · have d3 : decide (cur ∈ seen) = true := by simp [q3]
          rw [d3] at CO
          have HRR := hide (FIN.out (fun h => h.2.2 q3))
          clear q3 d3
          go_wp2_with (go_at_call 49; refine CO.out.mono ?_; rintro e w1 ⟨rfl, hq⟩; obtain rfl := hq.symm)
          go_ret2
          refine ⟨⟨ao, cp, ?_, ?_⟩, HW.out⟩
          · rw [HRR.out]; rfl
          · rw [HRR.out]; exact HOW.out
        · have d3 : decide (cur ∈ seen) = false := by simp [q3]
          rw [d3] at CO
          have HSN2 := hide (HSN.out.more q1 q2 q3)
          have HAL2 := hide (show al no nf (no - (seen ++ [cur]).length) (seen ++ [cur]) (nf cur) = R from (al_go HSN.out ⟨q1, q2, q3⟩).symm.trans HAL.out)
          have hl2 := HSN2.out.len
          simp only [List.length_append, List.length_singleton] at hl2
          clear q3 d3
          obtain ⟨j, rfl⟩ : ∃ j : Nat, cur = (j : Int) + 1 := ⟨cur.toNat - 1, by omega⟩
          have hj : j < no := by omega
          have hjn : (j : Int) < (no : Int) := by omega
          have hpf := HWD.out j hj
          have HNX := hide (show nf ((j : Int) + 1) = L j % 4294967296 by
            rw [← HNF.out]
            show L (((j : Int) + 1).toNat - 1) % 4294967296 = _
            rw [show ((j : Int) + 1).toNat - 1 = j by omega])
          obtain ⟨b, off, rfl, hbl, -, -⟩ := HL.out j hj
          have HC := hide (show ∀ V : World, Below w.heap.size w V → V.cell? ⟨b, off + j * 9 + 6, none⟩ = some (.int .u64 (L j)) ∧ V.cell? ⟨b, off + j * 9 + 7, none⟩ = some (.int .u64 (N j)) from fun V hV => by
            obtain ⟨b1, o1, e1, hl, h6, h7⟩ := HL.out.on hV j hj
            cases e1
            exact ⟨h6, h7⟩)
          clear hbl
          go_wp2_with (first
            | (go_at_call 49; refine CO.out.mono ?_; rintro e w1 ⟨rfl, hq⟩; obtain rfl := hq.symm; clear hq)
            | (at_builtin; refine wpList_append_own_at _ rfl (.tmp 27) (.tmp 29) 30 rfl w.heap.size 3 i3 (.int .i64 0) 1 8 Try.underlying30 hi3 hz3 hs3 hy3 rfl (by decide) (.slice ao seen.length cp) seen.length (ncs seen) rfl (HOW.out.alloc _) ⟨wr.heap.size, 0, none⟩ 1 1 [.int .i64 ((j : Int) + 1)] rfl (by simp) (cell_one_new wr (.int .i64 ((j : Int) + 1)) 3) (by simp [Value.oneCell']) (by unfold maxLen; omega) (by omega) (by have := HW.out.size; simp; omega) ?_; intro v2 w2 hown hgr _ _; have HOW2 := hide hown; have HB2 := hide (below_grown (HW.out.alloc HW.out.size _) (HOW.out.alloc _) hgr (by have := HW.out.size; simp; omega)); clear hown hgr; obtain ⟨c6, c7⟩ := HC.out w2 HB2.out)
            | (go_at_call 48; refine (index_ref _ hpf.1 hpf.2 _).mono ?_; rintro e w4 ⟨rfl, hq⟩; obtain rfl := hq.symm; clear hq))
          go_roundw
          case rel =>
            refine ⟨seen ++ [(j : Int) + 1], _, rfl, ?_, HSN2.out, ?_, HB2.out⟩
            · have e1 := HOW2.out
              rw [← ncs_more] at e1
              show World.ownsRow _ _ _ _ _ _ _
              simpa using e1
            · show _ = _
              rw [← HNX.out]
              exact HAL2.out
          case measure =>
            obtain ⟨ao2, cp2, e2⟩ := own_slice HOW2.out
            rw [e2]
            simp only [lenV]
            omega
      · have HRR := hide (FIN.out (fun h => q2 h.2.1))
        go_wp2_with fail
        go_ret2
        refine ⟨⟨ao, cp, ?_, ?_⟩, HW.out⟩
        · rw [HRR.out]; rfl
        · rw [HRR.out]; exact HOW.out
    · have HRR := hide (FIN.out (fun h => q1 h.1))
      go_wp2_with fail
      go_ret2
      refine ⟨⟨ao, cp, ?_, ?_⟩, HW.out⟩
      · rw [HRR.out]; rfl
      · rw [HRR.out]; exact HOW.out

set_option maxHeartbeats 4000000 in
theorem along_true {w : World} {oa : Option Addr} {no cb : Nat} {L N : Nat → Int} {hd : Int} (hL : Links w oa no L N) (hno : no ≤ 70000) (hw : ∀ j, j < no → 0 ≤ N j ∧ N j < 18446744073709551616) (h0 : 0 ≤ hd) (h1 : hd < 18446744073709551616) :
    Calls Try.prog 29 #[.slice oa no cb, .int .u64 hd, .bool true] w fun e w' => (∃ fa cf, e = .returned (.tuple #[.slice fa (al no (fun c => N (c.toNat - 1) % 4294967296) no [] (hd % 4294967296)).1.length cf, .int .i64 (al no (fun c => N (c.toNat - 1) % 4294967296) no [] (hd % 4294967296)).2]) ∧ Hid (w'.ownsRow w.heap.size 3 1 (.slice fa (al no (fun c => N (c.toNat - 1) % 4294967296) no [] (hd % 4294967296)).1.length cf) (al no (fun c => N (c.toNat - 1) % 4294967296) no [] (hd % 4294967296)).1.length (ncs (al no (fun c => N (c.toNat - 1) % 4294967296) no [] (hd % 4294967296)).1))) ∧ Below w.heap.size w w' := by
  obtain ⟨nf, hnf⟩ : ∃ nf : Int → Int, (fun c : Int => N (c.toNat - 1) % 4294967296) = nf := ⟨_, rfl⟩
  rw [hnf]
  have HNF := hide hnf
  clear hnf
  obtain ⟨R, hR⟩ : ∃ R, al no nf no [] (hd % 4294967296) = R := ⟨_, rfl⟩
  rw [hR]
  have HR := hide hR
  have HL := hide hL
  have HWD := hide hw
  obtain ⟨i3, hi3, hz3, hs3, hy3⟩ := infoI
  clear hR hL hw
  go_enter Try.func29, Try.ntmps29
  go_wp2_with (go_at_call 48; refine (index_ref _ h0 h1 _).mono ?_; rintro e w1 ⟨rfl, hq⟩; obtain rfl := hq.symm)
  clear h0 h1
  go_loopw [8, 9] (fun v i wr => ∃ (seen : List Int) (cur : Int), i = .int .i64 cur ∧ Hid (wr.ownsRow w.heap.size 3 1 v seen.length (ncs seen)) ∧ Hid (Sn no seen) ∧ Hid (al no nf (no - seen.length) seen cur = R) ∧ Hid (Below w.heap.size w wr)) (fun v _ _ => no - lenV v)
  case atStart => exact ⟨[], _, rfl, World.ownsRow_nil _ _ _ _, Sn.nil no, show _ = _ by simpa using HR.out, Below.refl _ _⟩
  case round =>
    obtain ⟨seen, cur, rfl, HOW, HSN, HAL, HW⟩ := hrel
    have hlen := HSN.out.len
    obtain ⟨ao, cp, rfl⟩ := own_slice HOW.out
    have FIN := hide (show ¬ (1 ≤ cur ∧ cur ≤ (no : Int) ∧ ¬ cur ∈ seen) → R = (seen, cur) from fun hn => by have := HAL.out; rw [al_stop _ _ _ hn] at this; exact this.symm)
    by_cases q1 : 1 ≤ cur
    · by_cases q2 : cur ≤ (no : Int)
      · have CO := hide (inside_ok (w := wr) (cap := cp) (c := cur) (owns_seesN HOW.out) rfl (by omega))
        by_cases q3 : cur ∈ seen
        · have d3 : decide (cur ∈ seen) = true := by simp [q3]
          rw [d3] at CO
          have HRR := hide (FIN.out (fun h => h.2.2 q3))
          clear q3 d3
          go_wp2_with (go_at_call 49; refine CO.out.mono ?_; rintro e w1 ⟨rfl, hq⟩; obtain rfl := hq.symm)
          go_ret2
          refine ⟨⟨ao, cp, ?_, ?_⟩, HW.out⟩
          · rw [HRR.out]; rfl
          · rw [HRR.out]; exact HOW.out
        · have d3 : decide (cur ∈ seen) = false := by simp [q3]
          rw [d3] at CO
          have HSN2 := hide (HSN.out.more q1 q2 q3)
          have HAL2 := hide (show al no nf (no - (seen ++ [cur]).length) (seen ++ [cur]) (nf cur) = R from (al_go HSN.out ⟨q1, q2, q3⟩).symm.trans HAL.out)
          have hl2 := HSN2.out.len
          simp only [List.length_append, List.length_singleton] at hl2
          clear q3 d3
          obtain ⟨j, rfl⟩ : ∃ j : Nat, cur = (j : Int) + 1 := ⟨cur.toNat - 1, by omega⟩
          have hj : j < no := by omega
          have hjn : (j : Int) < (no : Int) := by omega
          have hpf := HWD.out j hj
          have HNX := hide (show nf ((j : Int) + 1) = N j % 4294967296 by
            rw [← HNF.out]
            show N (((j : Int) + 1).toNat - 1) % 4294967296 = _
            rw [show ((j : Int) + 1).toNat - 1 = j by omega])
          obtain ⟨b, off, rfl, hbl, -, -⟩ := HL.out j hj
          have HC := hide (show ∀ V : World, Below w.heap.size w V → V.cell? ⟨b, off + j * 9 + 6, none⟩ = some (.int .u64 (L j)) ∧ V.cell? ⟨b, off + j * 9 + 7, none⟩ = some (.int .u64 (N j)) from fun V hV => by
            obtain ⟨b1, o1, e1, hl, h6, h7⟩ := HL.out.on hV j hj
            cases e1
            exact ⟨h6, h7⟩)
          clear hbl
          go_wp2_with (first
            | (go_at_call 49; refine CO.out.mono ?_; rintro e w1 ⟨rfl, hq⟩; obtain rfl := hq.symm; clear hq)
            | (at_builtin; refine wpList_append_own_at _ rfl (.tmp 27) (.tmp 29) 30 rfl w.heap.size 3 i3 (.int .i64 0) 1 8 Try.underlying30 hi3 hz3 hs3 hy3 rfl (by decide) (.slice ao seen.length cp) seen.length (ncs seen) rfl (HOW.out.alloc _) ⟨wr.heap.size, 0, none⟩ 1 1 [.int .i64 ((j : Int) + 1)] rfl (by simp) (cell_one_new wr (.int .i64 ((j : Int) + 1)) 3) (by simp [Value.oneCell']) (by unfold maxLen; omega) (by omega) (by have := HW.out.size; simp; omega) ?_; intro v2 w2 hown hgr _ _; have HOW2 := hide hown; have HB2 := hide (below_grown (HW.out.alloc HW.out.size _) (HOW.out.alloc _) hgr (by have := HW.out.size; simp; omega)); clear hown hgr; obtain ⟨c6, c7⟩ := HC.out w2 HB2.out)
            | (go_at_call 48; refine (index_ref _ hpf.1 hpf.2 _).mono ?_; rintro e w4 ⟨rfl, hq⟩; obtain rfl := hq.symm; clear hq))
          go_roundw
          case rel =>
            refine ⟨seen ++ [(j : Int) + 1], _, rfl, ?_, HSN2.out, ?_, HB2.out⟩
            · have e1 := HOW2.out
              rw [← ncs_more] at e1
              show World.ownsRow _ _ _ _ _ _ _
              simpa using e1
            · show _ = _
              rw [← HNX.out]
              exact HAL2.out
          case measure =>
            obtain ⟨ao2, cp2, e2⟩ := own_slice HOW2.out
            rw [e2]
            simp only [lenV]
            omega
      · have HRR := hide (FIN.out (fun h => q2 h.2.1))
        go_wp2_with fail
        go_ret2
        refine ⟨⟨ao, cp, ?_, ?_⟩, HW.out⟩
        · rw [HRR.out]; rfl
        · rw [HRR.out]; exact HOW.out
    · have HRR := hide (FIN.out (fun h => q1 h.1))
      go_wp2_with fail
      go_ret2
      refine ⟨⟨ao, cp, ?_, ?_⟩, HW.out⟩
      · rw [HRR.out]; rfl
      · rw [HRR.out]; exact HOW.out
end Vw
end Go.Proofs.Ytbffhfmhjnflbaa
