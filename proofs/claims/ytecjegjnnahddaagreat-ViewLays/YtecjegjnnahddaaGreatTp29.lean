/-
  Lemmas: VwLo.
-/
import Derived.Test.YtecjegjnnahddaaGreatTp26
import Derived.Test.YtecjegjnnahddaaGreatTp28
/-
  View: ViewLays: the law's kept, walked
-/
namespace Go.Proofs.YtecjegjnnahddaaGreat
open Go.RowKit
set_option linter.unusedVariables false
set_option linter.unusedSimpArgs false
set_option linter.unnecessarySimpa false
set_option maxRecDepth 20000
namespace Vw
open Shape
theorem Cq.refl (c : Cv) : Cq c c := ⟨rfl, rfl, rfl, ⟨rfl, rfl, rfl, rfl⟩, ⟨rfl, fun _ _ => rfl⟩, ⟨rfl, fun _ _ => ⟨rfl, fun _ _ => rfl⟩⟩, ⟨rfl, fun _ _ => rfl⟩, ⟨rfl, fun _ _ => ⟨rfl, rfl, rfl, rfl, rfl, rfl, rfl, rfl, rfl, fun _ _ => rfl⟩⟩, rfl, rfl, rfl⟩
theorem Wt.len {c : Cv} (h : Wt c) : Len c := ⟨by have := h.na; omega, by have := h.nr; omega, fun j hj => by have := h.rn j hj; omega, by have := h.nw; omega, by have := h.no; omega, fun j hj => by have := h.ns j hj; omega, by have := h.fr; omega, by have := h.gr; omega, by have := h.qu; omega⟩
theorem Li.mark {w : World} {lo : Nat} {l : List Int} {v : Value} (h : Li w lo l v) : ∃ g cap, v = .slice (some ⟨g, 0, none⟩) l.length cap ∧ l.length < cap ∧ g < w.heap.size ∧ w.cell? ⟨g, l.length, none⟩ = some (.int .i64 (-777)) := by
  obtain ⟨g, cap, e, hc, ho⟩ := h
  obtain ⟨b, e2, _, hl, hc2, _⟩ := owns_cell ho (i := l.length) (u := .int .i64 (-777)) (ncs_get (by simp))
  cases e2
  exact ⟨g, cap, e, hc, hl, hc2⟩

set_option maxHeartbeats 32000000 in
theorem kept_ok {c : Cv} {a2 av : Av} {w : World} {lo : Nat} (hM : Mk w lo c a2) (hS : Shows w c av) (hW : Wt c) :
    Calls Tryz.prog 9 #[vl c a2, vl c av] w fun e w' => e = .returned (.bool true) ∧ Below w.heap.size w w' := by
  have hL := hW.len
  obtain ⟨aa, ca, ra, cr, wa, cw, oa, cb, fa, cf, gga, cg, qa, cq⟩ := a2
  obtain ⟨ga, ca', e, hca, -⟩ := id hM.ac
  simp only at e; injection e with e1 _ e2; subst e1 e2
  obtain ⟨gw, cw', e, hcw, -⟩ := id hM.wk
  simp only at e; injection e with e1 _ e2; subst e1 e2
  obtain ⟨gf, cf', e, hcf, -⟩ := id hM.fr
  simp only at e; injection e with e1 _ e2; subst e1 e2
  obtain ⟨gg, cg', e, hcg, -⟩ := id hM.gr
  simp only at e; injection e with e1 _ e2; subst e1 e2
  obtain ⟨gq, cq', e, hcq, -⟩ := id hM.qu
  simp only at e; injection e with e1 _ e2; subst e1 e2
  obtain ⟨W0, hW0, B0, R0⟩ := vbox w c ⟨some ⟨ga, 0, none⟩, ca, ra, cr, some ⟨gw, 0, none⟩, cw, oa, cb, some ⟨gf, 0, none⟩, cf, some ⟨gg, 0, none⟩, cg, some ⟨gq, 0, none⟩, cq⟩
  obtain ⟨W1, hW1, B1, R1⟩ := vbox W0 c av
  simp only at hW0 R0
  have RX := hide (row_on R0 B1)
  have RY := hide R1
  have HB := hide (B0.trans (B1.mono B0.size))
  have l0 : w.heap.size < W0.heap.size := R0.lt
  have l1 : W0.heap.size < W1.heap.size := R1.lt
  have SV := hide (fun (V : World) (hb : Below W1.heap.size W1 V) => hS.below (HB.out.trans (hb.mono HB.out.size)))
  have MV := hide (fun (V : World) (hb : Below W1.heap.size W1 V) => hM.keep (w' := V) (fun b h1 _ => (HB.out.trans (hb.mono HB.out.size)).block b h1))
  have HL := hide hL
  have HW := hide hW
  have bnr := hL.nr
  have bno := hL.no
  have SM := hide (sameG (MV.out W1 (Below.refl _ _)).shows (SV.out W1 (Below.refl _ _)) hL hL)
  have WA := hide (fun (V : World) (hb : Below W1.heap.size W1 V) => (by
    obtain ⟨g2, cp2, e3, hc, ho⟩ := (MV.out V hb).ac
    simp only at e3; injection e3 with e1 _ e2; injection e1 with e1; injection e1 with e1; subst e1 e2
    exact whole_ok ho hc HW.out.na (SV.out V hb).ac : Calls Tryz.prog 25 #[.slice (some ⟨ga, 0, none⟩) c.na ca, .slice av.aa c.na av.ca] V fun e w' => e = .returned (.bool true) ∧ ∃ m, w' = V.drewN m))
  have WW := hide (fun (V : World) (hb : Below W1.heap.size W1 V) => (by
    obtain ⟨g2, cp2, e3, hc, ho⟩ := (MV.out V hb).wk
    simp only at e3; injection e3 with e1 _ e2; injection e1 with e1; injection e1 with e1; subst e1 e2
    exact whole_ok ho hc HW.out.nw (SV.out V hb).wk : Calls Tryz.prog 25 #[.slice (some ⟨gw, 0, none⟩) c.nw cw, .slice av.wa c.nw av.cw] V fun e w' => e = .returned (.bool true) ∧ ∃ m, w' = V.drewN m))
  have x0 := RX.out.cell (i := 0) (by decide)
  have x1 := RX.out.cell (i := 1) (by decide)
  have x2 := RX.out.cell (i := 2) (by decide)
  have x3 := RX.out.cell (i := 3) (by decide)
  have x4 := RX.out.cell (i := 4) (by decide)
  have x5 := RX.out.cell (i := 5) (by decide)
  have x6 := RX.out.cell (i := 6) (by decide)
  have x7 := RX.out.cell (i := 7) (by decide)
  have x8 := RX.out.cell (i := 8) (by decide)
  have x9 := RX.out.cell (i := 9) (by decide)
  have x10 := RX.out.cell (i := 10) (by decide)
  have x11 := RX.out.cell (i := 11) (by decide)
  have x12 := RX.out.cell (i := 12) (by decide)
  have x13 := RX.out.cell (i := 13) (by decide)
  simp only [lrow] at x0 x1 x2 x3 x4 x5 x6 x7 x8 x9 x10 x11 x12 x13
  have y0 := RY.out.cell (i := 0) (by decide)
  have y1 := RY.out.cell (i := 1) (by decide)
  have y2 := RY.out.cell (i := 2) (by decide)
  have y3 := RY.out.cell (i := 3) (by decide)
  have y4 := RY.out.cell (i := 4) (by decide)
  have y5 := RY.out.cell (i := 5) (by decide)
  have y6 := RY.out.cell (i := 6) (by decide)
  have y7 := RY.out.cell (i := 7) (by decide)
  have y8 := RY.out.cell (i := 8) (by decide)
  have y9 := RY.out.cell (i := 9) (by decide)
  have y10 := RY.out.cell (i := 10) (by decide)
  have y11 := RY.out.cell (i := 11) (by decide)
  have y12 := RY.out.cell (i := 12) (by decide)
  have y13 := RY.out.cell (i := 13) (by decide)
  simp only [lrow] at y0 y1 y2 y3 y4 y5 y6 y7 y8 y9 y10 y11 y12 y13
  clear hM hS hW hL B0 B1 R0 R1
  simp only [vl] at SM ⊢
  go_enter Tryz.func9, Tryz.ntmps9
  go_upto_region 1 with (fail)
  try simp only [hW0]
  try simp only [hW1]
  clear hW0 hW1
  go_upto_region 3 with (first
    | (go_at_call 20; refine SM.out.mono ?_; rintro e w2 ⟨ht, hb⟩; obtain rfl := ht.is (Cq.refl c); have HB2 := hide hb; have WA := hide (WA.out _ hb); have x3 := (row_on RX.out hb).cell (i := 3) (by decide); have y3 := (row_on RY.out hb).cell (i := 3) (by decide); simp only [lrow] at x3 y3; clear ht hb)
    | (have gg := HB3.out; clear gg; go_at_call 25; refine WW.out.mono ?_; rintro e w4 ⟨rfl, m4, rfl⟩; have HB4 := hide (below_drewN HB3.out m4))
    | (go_at_call 25; refine WA.out.mono ?_; rintro e w3 ⟨rfl, m3, rfl⟩; have HB3 := hide (below_drewN HB2.out m3); have WW := hide (WW.out _ HB3.out); have x5 := (row_on RX.out HB3.out).cell (i := 5) (by decide); have y5 := (row_on RY.out HB3.out).cell (i := 5) (by decide); simp only [lrow] at x5 y5))
  obtain ⟨V4, hV4⟩ : ∃ V, V = w2.drewN (m3 + m4) := ⟨_, rfl⟩
  have HB4 := hide (show Below W1.heap.size W1 V4 by rw [hV4, ← World.drewN_drewN]; exact HB4.out)
  try simp only [← hV4]
  clear WA WW SM x0 x1 x2 x3 x4 x5 x6 x7 x8 x9 x10 x11 x12 x13 y0 y1 y2 y3 y4 y5 y6 y7 y8 y9 y10 y11 y12 y13 HB2 HB3 hV4
  have y4 := (row_on RY.out HB4.out).cell (i := 4) (by decide)
  simp only [lrow] at y4
  go_wp2_with fail
  clear y4
  go_loopw [34] (fun i wr => ∃ q : Nat, q ≤ c.nr ∧ i = .int .i64 q ∧ Hid (Below W1.heap.size W1 wr)) (fun i _ => c.nr - (intOf i).toNat)
  case atStart => exact ⟨0, Nat.zero_le _, rfl, HB4.out⟩
  case round =>
    clear HB4
    obtain ⟨q, hq, rfl, HBr⟩ := hrel
    by_cases hlt : q < c.nr
    · have hqi : (q : Int) < (c.nr : Int) := by omega
      obtain ⟨b, off, ai, ci, hra, hbl, hcc, hse⟩ := (SV.out _ HBr.out).rt q hlt
      obtain ⟨rs, h1, h2⟩ := (MV.out _ HBr.out).rt
      obtain ⟨v, e, gv, cv, rfl, hcv, hov⟩ := h2 q hlt
      obtain ⟨bb, e2, _, hbb, hcb, _⟩ := owns_cell h1 e
      simp only at e2
      have WH := hide (whole_ok (cap := ci) hov hcv (HW.out.rn q hlt) hse)
      have x4 := (row_on RX.out HBr.out).cell (i := 4) (by decide)
      simp only [lrow] at x4
      rw [e2] at x4
      rw [hra]
      clear h1 h2 e hov hse hra e2
      go_wp2_with (go_at_call 25; refine WH.out.mono ?_; rintro e w5 ⟨rfl, m5, rfl⟩)
      go_roundw
      case rel => exact ⟨q + 1, by omega, by go_num, below_drewN HBr.out _⟩
      case measure => simp [intOf]; omega
    · obtain rfl : q = c.nr := by omega
      have hqi : ¬ ((c.nr : Nat) : Int) < ((c.nr : Nat) : Int) := by omega
      have y6 := (row_on RY.out HBr.out).cell (i := 6) (by decide)
      simp only [lrow] at y6
      obtain ⟨V5, hV5⟩ : ∃ V, V = wr := ⟨_, rfl⟩
      subst hV5
      have HB5 := HBr
      clear HBr
      go_wp2_with fail
      clear y6
      go_loopw [51] (fun i wr => ∃ q : Nat, q ≤ c.no ∧ i = .int .i64 q ∧ Hid (Below W1.heap.size W1 wr)) (fun i _ => c.no - (intOf i).toNat)
      case atStart => exact ⟨0, Nat.zero_le _, rfl, HB5.out⟩
      case round =>
        clear HB5
        obtain ⟨q, hq, rfl, HBr⟩ := hrel
        have lr : W1.heap.size ≤ wr.heap.size := HBr.out.size
        by_cases hlt : q < c.no
        · have hqi : (q : Int) < (c.no : Int) := by omega
          obtain ⟨b, off, ai, ci, hoa, hbl, hcc, hse⟩ := (SV.out _ HBr.out).ob q hlt
          have hwn := HW.out.ns q hlt
          have MVr := hide (MV.out _ HBr.out).ob
          rcases hob : c.ob q with ⟨us, li, fi, ta, ag, ge, lk, nx, ns, sl⟩
          obtain ⟨os, h1, h2⟩ := MVr.out
          obtain ⟨v, e, gv, cv, rfl, hcv, hov⟩ := h2 q hlt
          rw [hob] at hcc hse hwn e hov hcv
          simp only at hse hwn hov hcv
          obtain ⟨p0, p1, p2, p3, p4, p5, p6, p7, p8⟩ := obs9 hcc
          simp only at p0 p1 p2 p3 p4 p5 p6 p7 p8
          obtain ⟨bb, e2, _, hbb, hcb, _⟩ := owns_cell h1 (e 8 (by decide))
          simp only [Ob.cell] at e2 hcb
          rw [hoa]
          clear hcc h1 h2 e hoa MVr hob
          have HOV := hide hov
          have HSE := hide hse
          clear hov hse
          go_upto_region 12 with (fail)
          obtain ⟨WX, hWX⟩ : ∃ W, wr.alloc (.cells #[.bool us, .bool li, .bool fi, .bool ta, .int .i64 ag, .int .u64 ge, .int .u64 lk, .int .u64 nx, .slice ai ns ci] 46) = W := ⟨_, rfl⟩
          have RO := hide (show WX.rowIs wr.heap.size 46 9 (lrow [.bool us, .bool li, .bool fi, .bool ta, .int .i64 ag, .int .u64 ge, .int .u64 lk, .int .u64 nx, .slice ai ns ci]) by rw [← hWX]; exact rowL_alloc wr [.bool us, .bool li, .bool fi, .bool ta, .int .i64 ag, .int .u64 ge, .int .u64 lk, .int .u64 nx, .slice ai ns ci] _ rfl)
          have bx : Below wr.heap.size wr WX := by rw [← hWX]; exact (Below.refl _ _).alloc (Nat.le_refl _) _
          have BX := hide bx
          have lx : wr.heap.size < WX.heap.size := RO.out.lt
          have HBX := hide (HBr.out.trans (bx.mono lr))
          have hcb2 : WX.cell? ⟨bb, q * 9 + 8, none⟩ = some (.slice (some ⟨gv, 0, none⟩) ns cv) := (bx.cell (p := ⟨bb, q * 9 + 8, none⟩) hbb).trans hcb
          have WH := hide (fun m => whole_ok (w := WX.drewN m) (base := lo) (cap := ci) (owns_on HOV.out (below_drewN BX.out m)) hcv hwn (sees_on HSE.out (below_drewN BX.out m)))
          try simp only [hWX]
          clear hWX bx p0 p1 p2 p3 p4 p5 p6 p7 p8 hcb
          have u8 := RO.out.cell (i := 8) (by decide)
          simp only [lrow] at u8
          have x6 := (row_on RX.out HBX.out).cell (i := 6) (by decide)
          simp only [lrow] at x6
          rw [e2] at x6
          clear e2
          go_quiet ((go_at_call 25; exact Calls.quiet_of (WH.out _)))
          go_wp2
          go_roundw
          case rel => exact ⟨q + 1, by omega, by go_num, below_drewN HBX.out _⟩
          case measure => simp [intOf]; omega
        · obtain rfl : q = c.no := by omega
          have hqi : ¬ ((c.no : Nat) : Int) < ((c.no : Nat) : Int) := by omega
          obtain ⟨V6, hV6⟩ : ∃ V, V = wr := ⟨_, rfl⟩
          subst hV6
          have HB6 := HBr
          clear HBr
          have x7 := (row_on RX.out HB6.out).cell (i := 7) (by decide)
          have x8 := (row_on RX.out HB6.out).cell (i := 8) (by decide)
          have x9 := (row_on RX.out HB6.out).cell (i := 9) (by decide)
          simp only [lrow] at x7 x8 x9
          go_upto_region 16 with (fail)
          obtain ⟨W3, hW3⟩ : ∃ W, V6.alloc (.cells #[.slice (some ⟨gf, 0, none⟩) c.fr.length cf, .slice (some ⟨gg, 0, none⟩) c.gr.length cg, .slice (some ⟨gq, 0, none⟩) c.qu.length cq] 28) = W := ⟨_, rfl⟩
          have RL := hide (show W3.rowIs V6.heap.size 28 3 (lrow [.slice (some ⟨gf, 0, none⟩) c.fr.length cf, .slice (some ⟨gg, 0, none⟩) c.gr.length cg, .slice (some ⟨gq, 0, none⟩) c.qu.length cq]) by rw [← hW3]; exact rowL_alloc V6 [.slice (some ⟨gf, 0, none⟩) c.fr.length cf, .slice (some ⟨gg, 0, none⟩) c.gr.length cg, .slice (some ⟨gq, 0, none⟩) c.qu.length cq] _ rfl)
          have bx : Below V6.heap.size V6 W3 := by rw [← hW3]; exact (Below.refl _ _).alloc (Nat.le_refl _) _
          have lx : V6.heap.size < W3.heap.size := RL.out.lt
          have HB7 := hide (HB6.out.trans (bx.mono HB6.out.size))
          have LL := hide (show ∀ q, q < 3 → ∃ g n cp, W3.cell? ⟨V6.heap.size, q, none⟩ = some (.slice (some ⟨g, 0, none⟩) n cp) ∧ n < cp ∧ g < W3.heap.size ∧ W3.cell? ⟨g, n, none⟩ = some (.int .i64 (-777)) ∧ (n + 1) * 8 ≤ 140737488355328 from fun q hq => by
            have M := MV.out _ HB7.out
            match q, hq with
            | 0, _ =>
              obtain ⟨g, cp, e, h1, h2, h3⟩ := M.fr.mark
              simp only at e; injection e with e1 _ e2; injection e1 with e1; injection e1 with e1; subst e1 e2
              exact ⟨_, _, _, RL.out.cell (i := 0) (by decide), h1, h2, h3, HW.out.fr⟩
            | 1, _ =>
              obtain ⟨g, cp, e, h1, h2, h3⟩ := M.gr.mark
              simp only at e; injection e with e1 _ e2; injection e1 with e1; injection e1 with e1; subst e1 e2
              exact ⟨_, _, _, RL.out.cell (i := 1) (by decide), h1, h2, h3, HW.out.gr⟩
            | 2, _ =>
              obtain ⟨g, cp, e, h1, h2, h3⟩ := M.qu.mark
              simp only at e; injection e with e1 _ e2; injection e1 with e1; injection e1 with e1; subst e1 e2
              exact ⟨_, _, _, RL.out.cell (i := 2) (by decide), h1, h2, h3, HW.out.qu⟩)
          try simp only [hW3]
          clear hW3 bx x7 x8 x9 HB6
          go_loopw [75] (fun i wr => ∃ q : Nat, q ≤ 3 ∧ i = .int .i64 q ∧ wr = W3) (fun i _ => 3 - (intOf i).toNat)
          case atStart => exact ⟨0, by omega, rfl, rfl⟩
          case round =>
            obtain ⟨q, hq, rfl, rfl⟩ := hrel
            by_cases hlt : q < 3
            · have hqi : (q : Int) < 3 := by omega
              obtain ⟨g, n, cp, hcl, hn, hg, hm, hnb⟩ := LL.out q hlt
              have hn1 : (n : Int) + 1 ≤ (cp : Int) := by omega
              have hn2 : ((n + 1 : Nat) : Int) = (n : Int) + 1 := by omega
              have hn3 : (n : Int) < ((n + 1 : Nat) : Int) := by omega
              go_wp2_with fail
              go_roundw
              case rel => exact ⟨q + 1, by omega, by go_num, by first | rfl | trivial⟩
              case measure => simp [intOf]; omega
            · obtain rfl : q = 3 := by omega
              go_wp2_with fail
              go_ret
              exact ⟨by first | rfl | trivial, HB.out.trans (HB7.out.mono HB.out.size)⟩
end Vw
end Go.Proofs.YtecjegjnnahddaaGreat
