/-
  View: lists as they are seen: Contains, the package's list.
-/
import Derived.Test.YtbffhfmhjnflbaaVwB
namespace Go.Proofs.Ytbffhfmhjnflbaa
open Go.RowKit
set_option linter.unusedVariables false
set_option linter.unusedSimpArgs false
set_option linter.unnecessarySimpa false
set_option maxRecDepth 20000
namespace Vw
open Shape

theorem mem_take_more {l : List Int} {k : Nat} {c x : Int} (h : ¬ c ∈ l.take k) (hk : l[k]? = some x) (hx : ¬ c = x) : ¬ c ∈ l.take (k + 1) := by
  intro hm
  rw [List.take_add_one, hk] at hm
  simp at hm
  rcases hm with hm | hm
  · exact h hm
  · exact hx hm

set_option maxHeartbeats 1000000 in
theorem index_ok {w : World} {ao : Option Addr} {l : List Int} {cap : Nat} {c : Int} (h : SeesN w ao l) (hl : l.length ≤ 70000) :
    Calls Try.prog 100 #[.slice ao l.length cap, .int .i64 c] w fun e w' => (∃ v, e = .returned (.int .i64 v) ∧ (0 ≤ v ↔ c ∈ l)) ∧ w' = w := by
  have H := hide h
  obtain ⟨n, hn⟩ : ∃ n, l.length = n := ⟨_, rfl⟩
  have HN := hide hn
  rw [hn] at hl
  rw [hn]
  clear h hn
  go_enter Try.func100, Try.ntmps100
  go_wp2_with fail
  go_loopw [8] (fun i wr => ∃ k : Nat, k ≤ n ∧ i = .int .i64 k ∧ Hid (¬ c ∈ l.take k) ∧ wr = w) (fun i _ => n - (intOf i).toNat)
  case atStart => exact ⟨0, Nat.zero_le _, rfl, show ¬ _ by simp, rfl⟩
  case round =>
    obtain ⟨k, hk, rfl, HK, rfl⟩ := hrel
    by_cases hlt : k < n
    · obtain ⟨x, hx⟩ : ∃ x, l[k]? = some x := ⟨l[k]'(by rw [HN.out]; exact hlt), List.getElem?_eq_getElem _⟩
      have HX := hide hx
      obtain ⟨b, off, rfl, hbl, hcc⟩ := H.out k x hx
      clear hx
      have hkn : (k : Int) < (n : Int) := by omega
      by_cases he : c = x
      · subst he
        go_wp2
        go_ret
        exact ⟨⟨_, rfl, by constructor; intro _; exact List.mem_of_getElem? HX.out; intro _; omega⟩, rfl⟩
      · have he2 : (c == x) = false := by simp [he]
        go_wp2
        go_roundw
        case rel => exact ⟨k + 1, by omega, by go_num, mem_take_more HK.out HX.out he, trivial⟩
        case measure => simp [intOf]; omega
    · have hkn : ¬ (k : Int) < (n : Int) := by omega
      go_wp2
      go_ret
      refine ⟨⟨_, rfl, ?_⟩, rfl⟩
      constructor
      · intro h1; omega
      · intro hm
        exfalso
        have := HK.out
        rw [List.take_of_length_le (by rw [HN.out]; omega)] at this
        exact this hm

set_option maxHeartbeats 1000000 in
theorem contains_ok {w : World} {ao : Option Addr} {l : List Int} {n cap : Nat} {c : Int} (h : SeesN w ao l) (hn : l.length = n) (hl : n ≤ 70000) :
    Calls Try.prog 86 #[.slice ao n cap, .int .i64 c] w fun e w' => e = .returned (.bool (decide (c ∈ l))) ∧ w' = w := by
  subst hn
  have IO := hide (index_ok (cap := cap) (c := c) h hl)
  clear h
  go_enter Try.func86, Try.ntmps86
  go_wp2_with (go_at_call 100; refine IO.out.mono ?_; rintro e w1 ⟨⟨v, rfl, hv⟩, rfl⟩; have HV := hide hv; clear hv)
  go_ret
  refine ⟨ret_bool ?_, rfl⟩
  have := HV.out
  simp [this]

def lenV : Value → Nat
  | .slice _ n _ => n
  | _ => 0
theorem own_slice {w : World} {base : Nat} {e : TypeId} {size : Nat} {v : Value} {n : Nat} {xs : List Value} (h : w.ownsRow base e size v n xs) : ∃ ao cp, v = .slice ao n cp := by
  obtain ⟨hl, ⟨rfl, rfl⟩ | ⟨g, cap, cur, rfl, _⟩⟩ := h
  · exact ⟨_, _, rfl⟩
  · exact ⟨_, _, rfl⟩
theorem below_grown {B : Nat} {w wr w1 : World} {v : Value} {e : TypeId} {size n : Nat} {xs : List Value} (HB : Below B w wr) (HO : wr.ownsRow B e size v n xs) (G : wr.grownBy w1 v.ownBlock) (hB : B ≤ wr.heap.size) : Below B w w1 := by
  refine ⟨G.os.trans HB.os, G.tape.trans HB.tape, G.output.trans HB.output, Nat.le_trans HB.size G.size, fun k hk => ?_⟩
  refine (G.block k (by omega) (fun e => ?_)).trans (HB.block k hk)
  have := (HO.lt k e.symm).1
  omega

set_option maxHeartbeats 2000000 in
theorem list_ok {o s h r k b off z cap : Nat} {s5 : Int} {B at' over : Nat} {f : Nat → Int} (H : (⟨o, s, h, r, k⟩ : Sh).Ok) (hz : size ⟨o, s, h, r, k⟩ = z) (hc : z ≤ cap) (hat : at' < 8) (hov : over < 3) {w : World} (hS : Sees w B (some ⟨b, off, none⟩) z f) (hB : B ≤ w.heap.size) (hf : ∀ i, i < z → 0 ≤ f i ∧ f i < 18446744073709551616) :
    Calls Try.prog 85 #[.agg #[.int .i64 (o : Int), .int .i64 (s : Int), .int .i64 (h : Int), .int .i64 (r : Int), .int .i64 (k : Int), .int .i64 s5, .slice (some ⟨b, off, none⟩) z cap], .int .i64 (at' : Int), .int .i64 (over : Int)] w fun e w' => (∃ fa cf, e = .returned (.tuple #[.slice fa (lst ⟨o, s, h, r, k⟩ f at' over).1.length cf, .int .i64 (lst ⟨o, s, h, r, k⟩ f at' over).2]) ∧ Hid (w'.ownsRow w.heap.size 3 1 (.slice fa (lst ⟨o, s, h, r, k⟩ f at' over).1.length cf) (lst ⟨o, s, h, r, k⟩ f at' over).1.length (ncs (lst ⟨o, s, h, r, k⟩ f at' over).1))) ∧ Below w.heap.size w w' := by
  obtain ⟨R, hR⟩ : ∃ R, lst ⟨o, s, h, r, k⟩ f at' over = R := ⟨_, rfl⟩
  rw [hR]
  have HR := hide hR
  have g1 := (bnds H).1
  have z8 : 8 ≤ z := by rw [← hz]; have := lay_out ⟨o, s, h, r, k⟩; simp only at this ⊢; omega
  have HO := hide (fun (j : Nat) (hj : j < o) w1 => object_ok (b := b) (off := off) (s5 := s5) H hz hc hj w1)
  have HAT := hide (show ∀ j, j < o → pO ⟨o, s, h, r, k⟩ j + over < z from fun j hj => by have := (at_obj H hj).1; rw [← hz]; simp only [ow] at this ⊢; omega)
  have HS := hide (fun (w' : World) (hb : Below w.heap.size w w') (i : Nat) (hi : i < z) => show w'.cell? ⟨b, off + i, none⟩ = some (.int .u64 (f i)) by
    obtain ⟨b1, o1, e1, hl, hc⟩ := hS i hi
    cases e1
    exact (hb.cell (p := ⟨b, off + i, none⟩) (by show b < w.heap.size; omega)).trans hc)
  have HF := hide hf
  have hf0 := hf at' (by omega)
  have hati : (at' : Int) < (z : Int) := by omega
  obtain ⟨i3, hi3, hz3, hs3, hy3⟩ := infoI
  clear hR hS hf H
  obtain ⟨W0, hW0, B0, K⟩ := mbox w o s h r k b off z cap s5
  have HB := hide B0
  obtain ⟨-, l0, x0, x1, x2, x3, x4, x5, x6⟩ := K.out W0 (Below.refl _ _)
  have c0 := HS.out W0 B0 at' (by omega)
  clear B0
  go_enter Try.func85, Try.ntmps85
  go_wp2_with (go_at_call 99; refine (index_any _ hf0.1 hf0.2 _).mono ?_; rintro e w1 ⟨rfl, hq⟩; obtain rfl := hq.symm)
  go_loopw [6, 7] (fun v i wr => ∃ (seen : List Int) (cur : Int), i = .int .i64 cur ∧ Hid (wr.ownsRow W0.heap.size 3 1 v seen.length (ncs seen)) ∧ Hid (Sn o seen) ∧ Hid (al o (nxt ⟨o, s, h, r, k⟩ f over) (o - seen.length) seen cur = R) ∧ Hid (Below W0.heap.size W0 wr)) (fun v _ _ => o - lenV v)
  case atStart => exact ⟨[], _, rfl, World.ownsRow_nil _ _ _ _, Sn.nil o, show _ = _ by simpa [lst] using HR.out, Below.refl _ _⟩
  case round =>
    obtain ⟨seen, cur, rfl, HOW, HSN, HAL, HW⟩ := hrel
    have HBr := hide (HB.out.trans (HW.out.mono HB.out.size))
    obtain ⟨-, n1, y0, y1, y2, y3, y4, y5, y6⟩ := K.out wr HW.out
    have hlen := HSN.out.len
    obtain ⟨ao, cp, rfl⟩ := own_slice HOW.out
    have fin : ¬ (1 ≤ cur ∧ cur ≤ (o : Int) ∧ ¬ cur ∈ seen) → R = (seen, cur) := fun hn => by have := HAL.out; rw [al_stop _ _ _ hn] at this; exact this.symm
    have FIN := hide fin
    clear fin x0 x1 x2 x3 x4 x5 x6 c0 hf0
    by_cases q1 : 1 ≤ cur
    · by_cases q2 : cur ≤ (o : Int)
      · have CO := hide (contains_ok (w := wr) (cap := cp) (c := cur) (owns_seesN HOW.out) rfl (by omega))
        by_cases q3 : cur ∈ seen
        · have d3 : decide (cur ∈ seen) = true := by simp [q3]
          rw [d3] at CO
          have HRR := hide (FIN.out (fun h => h.2.2 q3))
          clear q3 d3
          go_wp2_with (go_at_call 86; refine CO.out.mono ?_; rintro e w1 ⟨rfl, hq⟩; obtain rfl := hq.symm)
          go_ret2
          refine ⟨⟨ao, cp, ?_, ?_⟩, HBr.out⟩
          · rw [HRR.out]; rfl
          · rw [HRR.out]; exact owns_low HOW.out HB.out.size
        · have d3 : decide (cur ∈ seen) = false := by simp [q3]
          rw [d3] at CO
          have HSN2 := hide (HSN.out.more q1 q2 q3)
          have HAL2 := hide (show al o (nxt ⟨o, s, h, r, k⟩ f over) (o - (seen ++ [cur]).length) (seen ++ [cur]) (nxt ⟨o, s, h, r, k⟩ f over cur) = R from (al_go HSN.out ⟨q1, q2, q3⟩).symm.trans HAL.out)
          have hl2 := HSN2.out.len
          simp only [List.length_append, List.length_singleton] at hl2
          clear q3 d3
          obtain ⟨j, rfl⟩ : ∃ j : Nat, cur = (j : Int) + 1 := ⟨cur.toNat - 1, by omega⟩
          have hj : j < o := by omega
          have hp1 := HAT.out j hj
          have hpf := HF.out _ hp1
          have OB := hide (fun w1 => HO.out j hj w1)
          have HNX := hide (show nxt ⟨o, s, h, r, k⟩ f over ((j : Int) + 1) = f (pO ⟨o, s, h, r, k⟩ j + over) % 4294967296 from by
            unfold nxt
            rw [show ((j : Int) + 1).toNat - 1 = j by omega])
          obtain ⟨a1, ha1⟩ : ∃ a1, pO ⟨o, s, h, r, k⟩ j = a1 := ⟨_, rfl⟩
          rw [ha1] at OB hp1 hpf HNX
          have hov2 : (over : Int) < ((3 + s : Nat) : Int) := by omega
          clear ha1
          go_wp2_with (first
            | (go_at_call 86; refine CO.out.mono ?_; rintro e w1 ⟨rfl, hq⟩; obtain rfl := hq.symm; clear hq)
            | (at_builtin; refine wpList_append_own_at _ rfl (.tmp 29) (.tmp 31) 30 rfl W0.heap.size 3 i3 (.int .i64 0) 1 8 Try.underlying30 hi3 hz3 hs3 hy3 rfl (by decide) (.slice ao seen.length cp) seen.length (ncs seen) rfl (HOW.out.alloc _) ⟨wr.heap.size, 0, none⟩ 1 1 [.int .i64 ((j : Int) + 1)] rfl (by simp) (cell_one_new wr (.int .i64 ((j : Int) + 1)) 3) (by simp [Value.oneCell']) (by unfold maxLen; omega) (by omega) (by have := HW.out.size; simp; omega) ?_; intro v2 w2 hown hgr _ _; have HOW2 := hide hown; have HB2 := hide (below_grown (HW.out.alloc HW.out.size _) (HOW.out.alloc _) hgr (by have := HW.out.size; simp; omega)); clear hown hgr; obtain ⟨hbb, n2, v0, v1, v3, v4, v5, v6, v7⟩ := K.out w2 HB2.out; have HBB := hide hbb; clear hbb)
            | (go_at_call 55; refine (OB.out _).mono ?_; rintro e w3 ⟨⟨p, cp3, rfl, hcp, hp⟩, hb3⟩; obtain rfl := hp (by omega); clear hp; have HB3 := hide hb3; clear hb3; have c3 : w3.cell? ⟨b, off + a1 + over, none⟩ = some (.int .u64 (f (a1 + over))) := by rw [show off + a1 + over = off + (a1 + over) by omega]; exact HS.out w3 (HBB.out.trans (HB3.out.mono HBB.out.size)) (a1 + over) hp1)
            | (go_at_call 99; refine (index_any _ hpf.1 hpf.2 _).mono ?_; rintro e w4 ⟨rfl, hq⟩; obtain rfl := hq.symm; clear hq))
          go_roundw
          case rel =>
            refine ⟨seen ++ [(j : Int) + 1], _, rfl, ?_, HSN2.out, ?_, HB2.out.trans (HB3.out.mono HB2.out.size)⟩
            · have e1 := owns_on HOW2.out HB3.out
              rw [← ncs_more] at e1
              show World.ownsRow _ _ _ _ _ _ _
              simpa using e1
            · show _ = _
              rw [← HNX.out]
              exact HAL2.out
          case measure =>
            obtain ⟨ao2, cp2, e2⟩ := own_slice HOW2.out
            rw [e2]
            simp only [lenV]
            omega
      · have HRR := hide (FIN.out (fun h => q2 h.2.1))
        go_wp2_with fail
        go_ret2
        refine ⟨⟨ao, cp, ?_, ?_⟩, HBr.out⟩
        · rw [HRR.out]; rfl
        · rw [HRR.out]; exact owns_low HOW.out HB.out.size
    · have HRR := hide (FIN.out (fun h => q1 h.1))
      go_wp2_with fail
      go_ret2
      refine ⟨⟨ao, cp, ?_, ?_⟩, HBr.out⟩
      · rw [HRR.out]; rfl
      · rw [HRR.out]; exact owns_low HOW.out HB.out.size
end Vw
end Go.Proofs.Ytbffhfmhjnflbaa
