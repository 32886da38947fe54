/-
  Hue: whiteOf, numbersOf, firstBad
-/
import Derived.Test.YtnodkeoikamonabHuA
namespace Go.Proofs.Ytnodkeoikamonab
open Go.RowKit
set_option linter.unusedVariables false
set_option linter.unusedSimpArgs false
set_option linter.unnecessarySimpa false
set_option maxRecDepth 20000
namespace Hu
open Gr
set_option maxHeartbeats 1000000 in
theorem whiteOf_ok {os : List Ob} {ws : List Int} {oa : Option Addr} {cb g : Nat} {w : World} (hS : Sob w oa os) (hB : Bd os) (R : w.rowIs g 69 os.length (fun i => .int .i64 (col os ws i))) {u : Int} (hu : 0 ≤ u ∧ u < 18446744073709551616) : Calls Try.prog 46 #[kv oa os.length cb g, .int .u64 u] w fun e w' => e = .returned (.int .i64 (wh os ws u : Int)) ∧ Below w.heap.size w w' := by
  obtain ⟨W0, hW0, B0, R0⟩ := kbox w (.slice oa os.length cb) (.slice (some ⟨g, 0, none⟩) os.length os.length)
  have d0 : W0.cell? ⟨w.heap.size, 0, none⟩ = some (.slice oa os.length cb) := R0.cell (i := 0) (by decide)
  have d1 : W0.cell? ⟨w.heap.size, 1, none⟩ = some (.slice (some ⟨g, 0, none⟩) os.length os.length) := R0.cell (i := 1) (by decide)
  have l0 : w.heap.size < W0.heap.size := R0.lt
  have HB0 := hide B0
  have HR0 := hide R0
  have HG0 := hide (row_on R B0)
  have HS0 := hide (hS.below B0)
  have hno := hB.no
  have OB := hide (object_ok (cb := cb) HS0.out hB hu.1 hu.2)
  obtain ⟨n, hn⟩ : ∃ n, os.length = n := ⟨_, rfl⟩
  have hgn := gd_le os u
  simp only [kv]
  rw [hn] at hW0 d0 d1 HG0 OB hno hgn ⊢
  have WH := hide (show ∀ q, gd os u = q → (q = 0 → wh os ws u = 0) ∧ (q ≠ 0 → (col os ws (q - 1) = 1 → wh os ws u = q) ∧ (col os ws (q - 1) ≠ 1 → wh os ws u = 0)) by
    rintro q rfl
    refine ⟨fun h => ?_, fun h => ⟨fun h1 => ?_, fun h1 => ?_⟩⟩
    · unfold wh; rw [if_neg (fun hx => hx.1 h)]
    · unfold wh; rw [if_pos ⟨h, h1⟩]
    · unfold wh; rw [if_neg (fun hx => h1 hx.2)])
  obtain ⟨m, hm⟩ : ∃ m, gd os u = m := ⟨_, rfl⟩
  rw [hm] at OB hgn
  have WX := hide (WH.out m hm)
  clear hm hn B0 R0 WH hS hB R HR0
  by_cases hm0 : m = 0
  · subst hm0
    have E := hide (WX.out.1 rfl)
    clear WX
    go_enter Try.func46, Try.ntmps46
    go_wp2_with (go_at_call 63; refine OB.out.mono ?_; rintro e w1 ⟨rfl, hb⟩; have HB1 := hide hb; clear hb)
    go_ret
    exact ⟨ret_int (by rw [E.out]; rfl), HB0.out.trans (HB1.out.mono (by omega))⟩
  · obtain ⟨q, rfl⟩ : ∃ q, m = q + 1 := ⟨m - 1, by omega⟩
    have hq : q < n := by omega
    have hq2 : (q : Int) < (n : Int) := by omega
    have WY := hide (WX.out.2 hm0)
    clear WX hm0
    obtain ⟨cq, hcq⟩ : ∃ cq, col os ws q = cq := ⟨_, rfl⟩
    have eq : q + 1 - 1 = q := by omega
    rw [eq, hcq] at WY
    have gx := HG0.out.cell hq
    rw [hcq] at gx
    clear eq hcq
    by_cases h1 : cq = 1
    · have E := hide (WY.out.1 h1)
      have h1b : (cq != 1) = false := by simp [h1]
      clear WY h1
      go_enter Try.func46, Try.ntmps46
      go_wp2_with (go_at_call 63; refine OB.out.mono ?_; rintro e w1 ⟨rfl, hb⟩; have HB1 := hide hb; have y1 := (hb.cell (p := ⟨w.heap.size, 1, none⟩) l0).trans d1; have y2 := (hb.cell (p := ⟨g, q, none⟩) HG0.out.lt).trans gx; clear hb)
      go_ret
      exact ⟨ret_int (by rw [E.out]; simp), HB0.out.trans (HB1.out.mono (by omega))⟩
    · have E := hide (WY.out.2 h1)
      have h1b : (cq != 1) = true := by simp [h1]
      clear WY h1
      go_enter Try.func46, Try.ntmps46
      go_wp2_with (go_at_call 63; refine OB.out.mono ?_; rintro e w1 ⟨rfl, hb⟩; have HB1 := hide hb; have y1 := (hb.cell (p := ⟨w.heap.size, 1, none⟩) l0).trans d1; have y2 := (hb.cell (p := ⟨g, q, none⟩) HG0.out.lt).trans gx; clear hb)
      go_ret
      exact ⟨ret_int (by rw [E.out]; rfl), HB0.out.trans (HB1.out.mono (by omega))⟩

set_option maxHeartbeats 2000000 in
theorem numbersOf_ok {os : List Ob} {ws : List Int} {oa : Option Addr} {cb g : Nat} {w : World} (hS : Sob w oa os) (hB : Bd os) (R : w.rowIs g 69 os.length (fun i => .int .i64 (col os ws i))) (c : Int) : Calls Try.prog 52 #[kv oa os.length cb g, .int .i64 c] w fun e w' => Nt w w' e (nb os ws c os.length) := by
  obtain ⟨W0, hW0, B0, R0⟩ := kbox w (.slice oa os.length cb) (.slice (some ⟨g, 0, none⟩) os.length os.length)
  have d0 : W0.cell? ⟨w.heap.size, 0, none⟩ = some (.slice oa os.length cb) := R0.cell (i := 0) (by decide)
  have d1 : W0.cell? ⟨w.heap.size, 1, none⟩ = some (.slice (some ⟨g, 0, none⟩) os.length os.length) := R0.cell (i := 1) (by decide)
  have l0 : w.heap.size < W0.heap.size := R0.lt
  have HB0 := hide B0
  have HR0 := hide R0
  have HG0 := hide (row_on R B0)
  have HS0 := hide (hS.below B0)
  have hno := hB.no
  obtain ⟨n, hn⟩ : ∃ n, os.length = n := ⟨_, rfl⟩
  simp only [kv]
  rw [hn] at hW0 d0 d1 HG0 hno ⊢
  obtain ⟨iI, hiI, hzI, hsI, hyI⟩ := infoI
  obtain ⟨z, hz⟩ : ∃ z, W0.heap.size = z := ⟨_, rfl⟩
  have Hz := hide hz
  have hgz : g < z := by rw [← hz]; exact HG0.out.lt
  rw [hz] at l0
  clear B0 R0 hS hB R hn HR0 hz
  go_enter Try.func52, Try.ntmps52
  go_wp2_with fail
  clear hW0 d0 d1
  go_loopw [5, 11] (fun v i wr => ∃ (k : Nat), k ≤ n ∧ i = .int .i64 k ∧ Hid (wr.ownsRow z 3 1 v (nb os ws c k).length (ncs (nb os ws c k))) ∧ Hid (Below z W0 wr)) (fun _ i _ => n - (intOf i).toNat)
  case atStart => exact ⟨0, Nat.zero_le _, rfl, ⟨rfl, .inl ⟨rfl, rfl⟩⟩, Below.refl _ _⟩
  case round =>
    obtain ⟨k, hk, rfl, HO, HB⟩ := hrel
    obtain ⟨la, cp, rfl⟩ := own_slice HO.out
    have hzw : z ≤ wr.heap.size := by have := HB.out.size; rw [Hz.out] at this; exact this
    by_cases hlt : k < n
    · have hkn : (k : Int) < (n : Int) := by omega
      have gx := (HB.out.cell (p := ⟨g, k, none⟩) hgz).trans (HG0.out.cell hlt)
      have ST := hide (show nb os ws c (k + 1) = nb os ws c k ++ (if col os ws k = c then [(k : Int) + 1] else []) from rfl)
      have LN : (nb os ws c k).length ≤ k := nb_len os ws c k
      obtain ⟨l, hl⟩ : ∃ l, nb os ws c k = l := ⟨_, rfl⟩
      rw [hl] at HO ST LN ⊢
      obtain ⟨ln, hln⟩ : ∃ ln, l.length = ln := ⟨_, rfl⟩
      rw [hln] at HO LN ⊢
      have HLn := hide hln
      obtain ⟨cq, hcq⟩ : ∃ cq, col os ws k = cq := ⟨_, rfl⟩
      rw [hcq] at gx ST
      clear hl hln hcq
      by_cases h1 : cq = c
      · have h1b : (cq == c) = true := by simp [h1]
        have ST2 := hide (show nb os ws c (k + 1) = l ++ [(k : Int) + 1] by rw [ST.out, if_pos h1])
        clear h1 ST
        have O3 := hide (show (wr.alloc (.cells #[.int .i64 ((k : Int) + 1)] 3)).ownsRow z 3 1 (.slice la ln cp) ln (ncs l) from owns_on HO.out ((Below.refl _ wr).alloc (Nat.le_refl _) _))
        go_wp2_with (at_builtin; refine wpList_append_own_at _ rfl (.tmp 19) (.tmp 22) 26 rfl z 3 iI (.int .i64 0) 1 8 Try.underlying26 hiI hzI hsI hyI rfl (by decide) (.slice la ln cp) ln (ncs l) rfl O3.out ⟨wr.heap.size, 0, none⟩ 1 1 (ncs [(k : Int) + 1]) rfl rfl (fun j v hj => by rw [Go.WideShapes.add_plain]; have hj1 : j < 1 := (by have := (List.getElem?_eq_some_iff.1 hj).1; simpa [ncs] using this); (obtain rfl : j = 0 := (by omega)); simp [ncs] at hj; rw [← hj]; simp) (ncs_one _) (by unfold maxLen; omega) (by omega) (by simp; omega) ?_; intro v2 w2 hown hgr _ _; obtain ⟨la3, cp3, rfl⟩ := own_slice hown; have HO4 := hide hown; have HB4 := hide (Gr.below_grown (HB.out.alloc hzw (.cells #[.int .i64 ((k : Int) + 1)] 3)) O3.out hgr (by simp; omega)); clear hown hgr)
        go_roundw
        case rel =>
          refine ⟨k + 1, by omega, by go_num, ?_, HB4.out⟩
          show World.ownsRow _ _ _ _ _ _ _
          rw [ST2.out, ncs_app, List.length_append, HLn.out]
          exact HO4.out
        case measure => simp [intOf]; omega
      · have h1b : (cq == c) = false := by simp [h1]
        have ST2 := hide (show nb os ws c (k + 1) = l by rw [ST.out, if_neg h1]; simp)
        clear h1 ST
        go_wp2_with fail
        go_roundw
        case rel =>
          refine ⟨k + 1, by omega, by go_num, ?_, HB.out⟩
          show World.ownsRow _ _ _ _ _ _ _
          rw [ST2.out, HLn.out]
          exact HO.out
        case measure => simp [intOf]; omega
    · have hkn : ¬ (k : Int) < (n : Int) := by omega
      obtain rfl : k = n := by omega
      go_wp2_with fail
      go_ret
      exact ⟨_, _, rfl, owns_low HO.out (by omega), HB0.out.trans (HB.out.mono (by omega))⟩

theorem fb_at {os : List Ob} {l : List Int} {k : Nat} {u : Int} (h : l[k]? = some u) (hb : bad os u = true) (hn : ∀ x ∈ l.take k, bad os x = false) : fb os l = u := by
  have e : l = l.take k ++ u :: l.drop (k + 1) := by
    obtain ⟨hl, rfl⟩ := List.getElem?_eq_some_iff.1 h
    simp
  unfold fb
  rw [e, List.find?_append]
  have : (l.take k).find? (bad os) = none := by
    rw [List.find?_eq_none]
    intro x hx
    simp [hn x hx]
  rw [this]
  simp [List.find?_cons, hb]
set_option maxHeartbeats 2000000 in
theorem firstBad_ok {os : List Ob} {oa la : Option Addr} {cb lc : Nat} {l : List Int} {w : World} (hS : Sob w oa os) (hB : Bd os) (hL : SeesU w la l) (hW : Wd l) (hll : l.length ≤ 35184372088832) : Calls Try.prog 49 #[.slice oa os.length cb, .slice la l.length lc] w fun e w' => e = .returned (.int .u64 (fb os l)) ∧ Below w.heap.size w w' := by
  have HS := hide hS
  have HL := hide hL
  have HW := hide hW
  have OB := hide (fun (w1 : World) (h1 : Sob w1 oa os) (u : Int) (h2 : 0 ≤ u ∧ u < 18446744073709551616) => object_ok (cb := cb) h1 hB h2.1 h2.2)
  obtain ⟨n, hn⟩ : ∃ n, os.length = n := ⟨_, rfl⟩
  obtain ⟨m, hm⟩ : ∃ m, l.length = m := ⟨_, rfl⟩
  rw [hm] at hll ⊢
  rw [hn] at OB ⊢
  have Hm := hide hm
  clear hn hm hS hL hW hB
  go_enter Try.func49, Try.ntmps49
  go_wp2_with fail
  go_loopw [9] (fun i wr => ∃ (k : Nat), k ≤ m ∧ i = .int .i64 k ∧ Hid (∀ x ∈ l.take k, bad os x = false) ∧ Hid (Below w.heap.size w wr)) (fun i _ => m - (intOf i).toNat)
  case atStart => exact ⟨0, Nat.zero_le _, rfl, (fun x hx => by simp at hx : ∀ x ∈ l.take 0, bad os x = false), Below.refl _ _⟩
  case round =>
    obtain ⟨k, hk, rfl, HN, HB⟩ := hrel
    by_cases hlt : k < m
    · have hkn : (k : Int) < (m : Int) := by omega
      obtain ⟨u, hu⟩ : ∃ u, l[k]? = some u := ⟨l[k]'(by rw [Hm.out]; exact hlt), by simp [Hm.out, hlt]⟩
      obtain ⟨b2, off2, hla, hbl2, hcc2⟩ := HL.out.below HB.out k u hu
      subst hla
      have hwu := HW.out u (List.mem_of_getElem? hu)
      have OX := hide (OB.out wr (HS.out.below HB.out) u hwu)
      have GO := hide (show bad os u = false → ∀ x ∈ l.take (k + 1), bad os x = false from fun hb x hx => by
        rw [List.take_add_one, hu] at hx
        rcases List.mem_append.1 hx with hx | hx
        · exact HN.out x hx
        · simp at hx; subst hx; exact hb)
      have FB := hide (fun hb => fb_at hu hb HN.out)
      clear hu hwu
      by_cases hu0 : u = 0
      · have g0 : (u != 0) = false := by simp [hu0]
        have GG := hide (GO.out (by simp [bad, hu0]))
        clear hu0 GO FB
        go_wp2_with fail
        go_roundw
        case rel => exact ⟨k + 1, by omega, by go_num, GG.out, HB.out⟩
        case measure => simp [intOf]; omega
      · have g0 : (u != 0) = true := by simp [hu0]
        obtain ⟨q, hq⟩ : ∃ q, gd os u = q := ⟨_, rfl⟩
        rw [hq] at OX
        by_cases hq0 : q = 0
        · subst hq0
          have FX := hide (FB.out (by simp [bad, hu0, hq]))
          clear hu0 GO FB hq
          go_wp2_with (go_at_call 63; refine OX.out.mono ?_; rintro e w1 ⟨rfl, hb⟩; have HB1 := hide hb; clear hb)
          go_ret
          exact ⟨ret_int FX.out.symm, HB.out.trans (HB1.out.mono HB.out.size)⟩
        · have GG := hide (GO.out (by simp [bad, hq, hq0]))
          have q0 : ((q : Int) == 0) = false := by simp [hq0]
          have q1 : ¬ (q : Int) = 0 := by omega
          clear hu0 GO FB hq
          go_wp2_with (go_at_call 63; refine OX.out.mono ?_; rintro e w1 ⟨rfl, hb⟩; have HB1 := hide hb; clear hb)
          go_roundw
          case rel => exact ⟨k + 1, by omega, by go_num, GG.out, HB.out.trans (HB1.out.mono HB.out.size)⟩
          case measure => simp [intOf]; omega
    · have hkn : ¬ (k : Int) < (m : Int) := by omega
      have e0 : l.take k = l := List.take_of_length_le (by rw [Hm.out]; omega)
      rw [e0] at HN
      have FX := hide (fb_zero.2 HN.out)
      go_wp2_with fail
      go_ret
      exact ⟨ret_int FX.out.symm, HB.out⟩
end Hu
end Go.Proofs.Ytnodkeoikamonab
