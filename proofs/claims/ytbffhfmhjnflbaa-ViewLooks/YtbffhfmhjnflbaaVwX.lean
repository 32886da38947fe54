/-
  View: Replay of the document
-/
import Derived.Test.YtbffhfmhjnflbaaVwV
namespace Go.Proofs.Ytbffhfmhjnflbaa
open Go.RowKit
set_option linter.unusedVariables false
set_option linter.unusedSimpArgs false
set_option linter.unnecessarySimpa false
set_option maxRecDepth 20000
namespace Vw
open Shape

set_option maxHeartbeats 1000000 in
theorem copied_r {w : World} {B : Nat} {ao : Option Addr} {n cap : Nat} {f : Nat → Int} (h : Sees w B ao n f) (hN : ao = none → n = 0 ∧ cap = 0) (hn : n ≤ 70000) :
    Calls Try.prog 24 #[.slice ao n cap] w fun e w' => (∃ go gc, e = .returned (.slice go n gc) ∧ Hid (w'.ownsRow w.heap.size 27 1 (.slice go n gc) n (wcs n f))) ∧ Below w.heap.size w w' := by
  obtain ⟨iU, hiU, hzU, hsU, hyU⟩ := infoU
  have HN := hide (news_of h)
  cases ao with
  | none =>
    obtain ⟨rfl, rfl⟩ := hN rfl
    go_enter Try.func24, Try.ntmps24
    go_wp2_with (at_builtin; refine wpList_append_own_none rfl (.tmp 4) (.tmp 5) 24 rfl w.heap.size 27 iU 1 Try.underlying24 hiU (.slice none 0 0) 0 [] rfl (World.ownsRow_nil _ _ _ _) rfl ?_)
    go_ret
    exact ⟨⟨none, 0, rfl, World.ownsRow_nil _ _ _ _⟩, Below.refl _ _⟩
  | some ad =>
    go_enter Try.func24, Try.ntmps24
    go_wp2_with (at_builtin; refine wpList_append_own_at _ rfl (.tmp 4) (.tmp 5) 24 rfl w.heap.size 27 iU (.int .u64 0) 1 8 Try.underlying24 hiU hzU hsU hyU rfl (by decide) (.slice none 0 0) 0 [] rfl (World.ownsRow_nil _ _ _ _) ad n cap (wcs n f) rfl (by rw [wcs_len]; omega) (HN.out ad rfl) (wcs_one n f) (by unfold maxLen; omega) (by omega) (Nat.le_refl _) ?_; intro v2 w2 hown hgr _ _; have O2 := hide hown; have G2 := hide hgr; clear hown hgr)
    go_ret
    have O3 := O2.out
    simp only [Nat.zero_add, List.nil_append] at O3
    obtain ⟨go', gc, e2⟩ := own_slice O3
    subst e2
    exact ⟨⟨go', gc, rfl, O3⟩, below_grown (Below.refl _ _) (World.ownsRow_nil w w.heap.size 27 1) G2.out (Nat.le_refl _)⟩

set_option maxHeartbeats 4000000 in
theorem replay_r {ao sa : Option Addr} {m cap ns cs : Nat} {n : Int} {f : Nat → Int} {a : Nat → Sp} {w : World} (hS : Sees w w.heap.size ao m f) (hN : ao = none → m = 0 ∧ cap = 0) (hP : SeesP w sa ns a) (hcs : ns ≤ cs) (hcs2 : cs ≤ 9223372036854775807) (hm9 : m ≤ 9223372036854775807) : Calls Try.prog 15 #[.slice ao m cap, .slice sa ns cs, .int .i64 n] w fun e w' => (∃ go gc, e = .returned (.tuple #[.slice go (rd m ns n a f).2.1 gc, .int .i64 (rd m ns n a f).1]) ∧ Hid (w'.ownsRow w.heap.size 27 1 (.slice go (rd m ns n a f).2.1 gc) (rd m ns n a f).2.1 (wcs (rd m ns n a f).2.1 (rd m ns n a f).2.2))) ∧ Below w.heap.size w w' := by
  by_cases h1 : 4096 < m ∨ 65536 < ns
  · rw [rd1 h1]
    by_cases h2 : 4096 < m
    · have h3 : (4096 : Int) < (m : Int) := by omega
      go_enter Try.func15, Try.ntmps15
      go_wp2_with fail
      go_ret2
      exact ⟨⟨none, 0, rfl, World.ownsRow_nil _ _ _ _⟩, Below.refl _ _⟩
    · have h3 : ¬ ((4096 : Int) < (m : Int)) := by omega
      have h4 : (65536 : Int) < (ns : Int) := by omega
      go_enter Try.func15, Try.ntmps15
      go_wp2_with fail
      go_ret2
      exact ⟨⟨none, 0, rfl, World.ownsRow_nil _ _ _ _⟩, Below.refl _ _⟩
  · have g1 : ¬ ((4096 : Int) < (m : Int)) := by omega
    have g2 : ¬ ((65536 : Int) < (ns : Int)) := by omega
    by_cases h2 : n < 0 ∨ (ns : Int) < n
    · rw [rd2 h1 h2]
      by_cases h3 : n < 0
      · have h5 : True := trivial
        go_enter Try.func15, Try.ntmps15
        go_wp2_with fail
        go_ret2
        exact ⟨⟨none, 0, rfl, World.ownsRow_nil _ _ _ _⟩, Below.refl _ _⟩
      · have h4 : (ns : Int) < n := by omega
        go_enter Try.func15, Try.ntmps15
        go_wp2_with fail
        go_ret2
        exact ⟨⟨none, 0, rfl, World.ownsRow_nil _ _ _ _⟩, Below.refl _ _⟩
    · obtain ⟨q, rfl⟩ : ∃ q : Nat, n = (q : Int) := ⟨n.toNat, by omega⟩
      have hq : q ≤ ns := by omega
      rw [rd3 h1 hq]
      obtain ⟨D, hD⟩ : ∃ D : Int × Nat × (Nat → Int), rdm m f (rp m a f q) = D := ⟨_, rfl⟩
      rw [hD]
      have HD := hide hD
      clear hD
      have hm : m ≤ 4096 := by omega
      have hns : ns ≤ 65536 := by omega
      have g3 : ¬ ((q : Int) < 0) := by omega
      have g4 : ¬ ((ns : Int) < (q : Int)) := by omega
      have HP := hide hP
      have CV := hide (copied_r (cap := cap) hS hN (by omega))
      clear hS hP hN h1 h2
      go_enter Try.func15, Try.ntmps15
      go_wp2_with (go_at_call 24; refine CV.out.mono ?_; rintro e w1 ⟨⟨go', gc, rfl, HO1⟩, hb1⟩; have HB1 := hide hb1; clear hb1)
      go_loopw [9] (fun i wr => ∃ (k : Nat) (f' : Nat → Int), k ≤ q ∧ i = .int .i64 k ∧ Hid (rp m a f k = some f') ∧ Hid (wr.ownsRow w.heap.size 27 1 (.slice go' m gc) m (wcs m f')) ∧ Hid (Below w.heap.size w wr)) (fun i _ => q - (intOf i).toNat)
      case atStart => exact ⟨0, f, Nat.zero_le _, rfl, show rp m a f 0 = some f from rfl, HO1.out, HB1.out⟩
      case round =>
        obtain ⟨k, f', hk, rfl, HRP, HO, HW⟩ := hrel
        by_cases hlt : k < q
        · have hkn : (k : Int) < (q : Int) := by omega
          have hkns : (k : Int) < (ns : Int) := by omega
          obtain ⟨b, off, e0, hbl, o0, o1, o2, o3, o4, o5⟩ := (HP.out.on HW.out).cells (show k < ns by omega)
          subst e0
          obtain ⟨x, hx⟩ : ∃ x, a k = x := ⟨_, rfl⟩
          have HX := hide hx
          rw [hx] at o0 o1 o2 o3 o4 o5
          obtain ⟨ha, ac, at', hd, pt, ok⟩ := x
          simp only at o0 o1 o2 o3 o4 o5
          clear hx
          go_upto_region 10 with (fail)
          obtain ⟨W4, hW4, B4, R4⟩ := sbox wr ha ac at' hd pt ok
          have HB4 := hide (HW.out.trans (B4.mono HW.out.size))
          have p2 : W4.cell? ⟨wr.heap.size, 2, none⟩ = some (.int .i64 at') := R4.cell (i := 2) (by decide)
          have p3 : W4.cell? ⟨wr.heap.size, 3, none⟩ = some (.int .u64 hd) := R4.cell (i := 3) (by decide)
          have p4 : W4.cell? ⟨wr.heap.size, 4, none⟩ = some (.int .u64 pt) := R4.cell (i := 4) (by decide)
          have O4 := hide (owns_on HO.out B4)
          have NX := hide (show rp m a f (k + 1) = one m f' ⟨ha, ac, at', hd, pt, ok⟩ by simp only [rp]; rw [HRP.out, HX.out]; rfl)
          simp only [hW4]
          clear hW4 o0 o1 o2 o3 o4 o5 R4 B4
          have NON := hide (show one m f' ⟨ha, ac, at', hd, pt, ok⟩ = none → D = (130, 0, f) from fun h => by rw [← HD.out, rp_none (NX.out.trans h) q (by omega)]; rfl)
          by_cases hat : 0 ≤ at' ∧ at' < (m : Int)
          · obtain ⟨t, rfl⟩ : ∃ t : Nat, at' = (t : Int) := ⟨at'.toNat, by omega⟩
            have ht : t < m := by omega
            have ht2 : (t : Int) < (m : Int) := by omega
            have l1 : ¬ ((t : Int) < 0) := by omega
            have l2 : ¬ ((m : Int) ≤ (t : Int)) := by omega
            obtain ⟨g, e', hg1, hg2, ck, fk⟩ := owns_cell O4.out (wcs_get f' ht)
            subst e'
            have hone : one m f' ⟨ha, ac, (t : Int), hd, pt, ok⟩ = if hd = f' t then some (putF f' t pt) else none := by
              unfold one
              rw [if_pos hat]
              rfl
            have HON := hide hone
            clear hone hat
            by_cases hh : hd = f' t
            · have hh2 : (hd != f' t) = false := by simp [hh]
              have NX2 := hide (show rp m a f (k + 1) = some (putF f' t pt) by rw [NX.out, HON.out, if_pos hh])
              clear hh
              go_upto_region 13 with (fail)
              go_quiet (fail)
              go_wp2
              go_roundw
              case rel => exact ⟨k + 1, putF f' t pt, by omega, by go_num, NX2.out, owns_put (w := W4.drewN nq) O4.out t pt, (below_drewN HB4.out nq).setCell hg1 _⟩
              case measure => simp [intOf]; omega
            · have hh2 : (hd != f' t) = true := by simp [hh]
              have NN := hide (NON.out (by rw [HON.out, if_neg hh]))
              clear hh
              go_upto_region 13 with (fail)
              go_quiet (fail)
              go_wp2
              go_ret2
              rw [NN.out]
              exact ⟨⟨none, 0, rfl, World.ownsRow_nil _ _ _ _⟩, below_drewN HB4.out nq⟩
          · have hone : one m f' ⟨ha, ac, at', hd, pt, ok⟩ = if hd = 0 ∧ pt = 0 then some f' else none := by
              unfold one
              rw [if_neg hat]
            have HON := hide hone
            clear hone
            by_cases hn : at' < 0
            · clear hat
              by_cases h0 : hd = 0
              · by_cases p0 : pt = 0
                · have hyes : True := trivial
                  have NX2 := hide (show rp m a f (k + 1) = some f' by rw [NX.out, HON.out, if_pos ⟨h0, p0⟩])
                  subst h0 p0
                  go_wp2_with fail
                  go_roundw
                  case rel => exact ⟨k + 1, f', by omega, by go_num, NX2.out, O4.out, HB4.out⟩
                  case measure => simp [intOf]; omega
                · have NN := hide (NON.out (by rw [HON.out, if_neg (fun h => p0 h.2)]))
                  have p1 : (pt != 0) = true := by simp [p0]
                  subst h0
                  go_wp2_with fail
                  go_ret2
                  rw [NN.out]
                  exact ⟨⟨none, 0, rfl, World.ownsRow_nil _ _ _ _⟩, HB4.out⟩
              · have NN := hide (NON.out (by rw [HON.out, if_neg (fun h => h0 h.1)]))
                have h9 : (hd != 0) = true := by simp [h0]
                go_wp2_with fail
                go_ret2
                rw [NN.out]
                exact ⟨⟨none, 0, rfl, World.ownsRow_nil _ _ _ _⟩, HB4.out⟩
            · have hge : (m : Int) ≤ at' := by omega
              clear hat
              by_cases h0 : hd = 0
              · by_cases p0 : pt = 0
                · have hyes : True := trivial
                  have NX2 := hide (show rp m a f (k + 1) = some f' by rw [NX.out, HON.out, if_pos ⟨h0, p0⟩])
                  subst h0 p0
                  go_wp2_with fail
                  go_roundw
                  case rel => exact ⟨k + 1, f', by omega, by go_num, NX2.out, O4.out, HB4.out⟩
                  case measure => simp [intOf]; omega
                · have NN := hide (NON.out (by rw [HON.out, if_neg (fun h => p0 h.2)]))
                  have p1 : (pt != 0) = true := by simp [p0]
                  subst h0
                  go_wp2_with fail
                  go_ret2
                  rw [NN.out]
                  exact ⟨⟨none, 0, rfl, World.ownsRow_nil _ _ _ _⟩, HB4.out⟩
              · have NN := hide (NON.out (by rw [HON.out, if_neg (fun h => h0 h.1)]))
                have h9 : (hd != 0) = true := by simp [h0]
                go_wp2_with fail
                go_ret2
                rw [NN.out]
                exact ⟨⟨none, 0, rfl, World.ownsRow_nil _ _ _ _⟩, HB4.out⟩
        · have hkn : ¬ (k : Int) < (q : Int) := by omega
          have hkq : k = q := by omega
          have RPQ := hide (show D = (0, m, f') by rw [← HD.out, ← hkq, HRP.out]; rfl)
          clear hkq
          go_wp2_with fail
          go_ret2
          rw [RPQ.out]
          exact ⟨⟨go', gc, rfl, HO.out⟩, HW.out⟩
end Vw
end Go.Proofs.Ytbffhfmhjnflbaa
