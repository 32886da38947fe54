/-
  View: Replay of the package
-/
import Derived.Test.YtbffhfmhjnflbaaVwU
namespace Go.Proofs.Ytbffhfmhjnflbaa
open Go.RowKit
set_option linter.unusedVariables false
set_option linter.unusedSimpArgs false
set_option linter.unnecessarySimpa false
set_option maxRecDepth 20000
namespace Vw
open Shape

theorem slice_h {sa : Option Addr} {ns cs : Nat} (q : Nat) (hq : q ≤ cs) (hp : 0 < q → ∃ b off, sa = some ⟨b, off, none⟩) : ∃ p, (∀ w, (Instr.slice 45 (.slice sa ns cs) none (some (.int .i64 (q : Int))) none).run Try.prog w = .ok (.slice p q cs) w) ∧ (0 < q → p = sa) := by
  refine ⟨if cs = 0 then sa else sa.map (·.add 0), fun w => ?_, fun h => ?_⟩
  · have hs : (sizeOf (Try.prog.elem 45)).run Try.prog w = .ok 6 w := by kernel_rfl
    rw [run_slice_h w 45 sa ns cs (by kernel_rfl) .i64 _ (by omega) (by omega), hs]
    simp only [Result.andThen, sliced]
    simp
  · obtain ⟨b, off, rfl⟩ := hp h
    rw [if_neg (by omega)]
    simp [Go.WideShapes.add_plain]
def E1 (m ns : Nat) : Prop := 4096 < m ∨ 65536 < ns
theorem rd1 {m ns : Nat} {n : Int} {a : Nat → Sp} {f : Nat → Int} (h : 4096 < m ∨ 65536 < ns) : rd m ns n a f = (1, 0, f) := by unfold rd; rw [if_pos h]
theorem rd2 {m ns : Nat} {n : Int} {a : Nat → Sp} {f : Nat → Int} (h : ¬ (4096 < m ∨ 65536 < ns)) (h2 : n < 0 ∨ (ns : Int) < n) : rd m ns n a f = (2, 0, f) := by unfold rd; rw [if_neg h, if_pos h2]
theorem rd3 {m ns q : Nat} {a : Nat → Sp} {f : Nat → Int} (h : ¬ (4096 < m ∨ 65536 < ns)) (h2 : q ≤ ns) : rd m ns (q : Int) a f = rdm m f (rp m a f q) := by
  unfold rd
  rw [if_neg h, if_neg (by omega)]
  rfl

set_option maxHeartbeats 4000000 in
theorem replay_v {ao sa : Option Addr} {m cap ns cs : Nat} {n : Int} {f : Nat → Int} {a : Nat → Sp} {w : World} (hS : Sees w w.heap.size ao m f) (hP : SeesP w sa ns a) (hcs : ns ≤ cs) (hcs2 : cs ≤ 9223372036854775807) (hm9 : m ≤ 9223372036854775807) : Calls Try.prog 16 #[.slice ao m cap, .slice sa ns cs, .int .i64 n] w fun e w' => (∃ go gc, e = .returned (.tuple #[.slice go (rd m ns n a f).2.1 gc, .int .i64 (rd m ns n a f).1]) ∧ Hid (w'.ownsRow w.heap.size 27 1 (.slice go (rd m ns n a f).2.1 gc) (rd m ns n a f).2.1 (wcs (rd m ns n a f).2.1 (rd m ns n a f).2.2))) ∧ Below w.heap.size w w' := by
  by_cases h1 : 4096 < m ∨ 65536 < ns
  · rw [rd1 h1]
    by_cases h2 : 4096 < m
    · have h3 : (4096 : Int) < (m : Int) := by omega
      go_enter Try.func16, Try.ntmps16
      go_wp2_with fail
      go_ret2
      exact ⟨⟨none, 0, rfl, World.ownsRow_nil _ _ _ _⟩, Below.refl _ _⟩
    · have h3 : ¬ ((4096 : Int) < (m : Int)) := by omega
      have h4 : (65536 : Int) < (ns : Int) := by omega
      go_enter Try.func16, Try.ntmps16
      go_wp2_with fail
      go_ret2
      exact ⟨⟨none, 0, rfl, World.ownsRow_nil _ _ _ _⟩, Below.refl _ _⟩
  · have g1 : ¬ ((4096 : Int) < (m : Int)) := by omega
    have g2 : ¬ ((65536 : Int) < (ns : Int)) := by omega
    by_cases h2 : n < 0 ∨ (ns : Int) < n
    · rw [rd2 h1 h2]
      by_cases h3 : n < 0
      · go_enter Try.func16, Try.ntmps16
        go_wp2_with fail
        go_ret2
        exact ⟨⟨none, 0, rfl, World.ownsRow_nil _ _ _ _⟩, Below.refl _ _⟩
      · have h4 : (ns : Int) < n := by omega
        go_enter Try.func16, Try.ntmps16
        go_wp2_with fail
        go_ret2
        exact ⟨⟨none, 0, rfl, World.ownsRow_nil _ _ _ _⟩, Below.refl _ _⟩
    · obtain ⟨q, rfl⟩ : ∃ q : Nat, n = (q : Int) := ⟨n.toNat, by omega⟩
      have hq : q ≤ ns := by omega
      rw [rd3 h1 hq]
      obtain ⟨D, hD⟩ : ∃ D : Int × Nat × (Nat → Int), rdm m f (rp m a f q) = D := ⟨_, rfl⟩
      rw [hD]
      have HD := hide hD
      clear hD
      have hm : m ≤ 4096 := by omega
      have hns : ns ≤ 65536 := by omega
      have g3 : ¬ ((q : Int) < 0) := by omega
      have g4 : ¬ ((ns : Int) < (q : Int)) := by omega
      obtain ⟨ps, hsl, hps⟩ := slice_h (sa := sa) (ns := ns) (cs := cs) q (by omega) (fun h => by obtain ⟨b, off, e, _⟩ := hP 0 (by omega); exact ⟨b, off, e⟩)
      have HPS := hide hps
      have HP := hide hP
      have CV := hide (copied_v (cap := cap) hS (Nat.le_refl _) (by omega))
      clear hS hP hps h1 h2
      go_enter Try.func16, Try.ntmps16
      go_wp2_with (go_at_call 37; refine CV.out.mono ?_; rintro e w1 ⟨g0, rfl, HO1, hb1⟩; have HB1 := hide hb1; clear hb1)
      go_loopw [33] (fun i wr => ∃ (k : Nat) (f' : Nat → Int), k ≤ q ∧ i = .int .i64 k ∧ Hid (rp m a f k = some f') ∧ Hid (wr.ownsRow w.heap.size 27 1 (.slice (some ⟨g0, 0, none⟩) m m) m (wcs m f')) ∧ Hid (Below w.heap.size w wr)) (fun i _ => q - (intOf i).toNat)
      case atStart => exact ⟨0, f, Nat.zero_le _, rfl, show rp m a f 0 = some f from rfl, HO1.out, HB1.out⟩
      case round =>
        obtain ⟨k, f', hk, rfl, HRP, HO, HW⟩ := hrel
        by_cases hlt : k < q
        · have hkn : (k : Int) < (q : Int) := by omega
          obtain ⟨b, off, e0, hbl, o0, o1, o2, o3, o4, o5⟩ := (HP.out.on HW.out).cells (show k < ns by omega)
          obtain rfl := HPS.out (by omega)
          subst e0
          obtain ⟨x, hx⟩ : ∃ x, a k = x := ⟨_, rfl⟩
          have HX := hide hx
          rw [hx] at o0 o1 o2 o3 o4 o5
          obtain ⟨ha, ac, at', hd, pt, ok⟩ := x
          simp only at o0 o1 o2 o3 o4 o5
          clear hx
          go_upto_region 9 with (fail)
          obtain ⟨W4, hW4, B4, R4⟩ := sbox wr ha ac at' hd pt ok
          have HB4 := hide (HW.out.trans (B4.mono HW.out.size))
          have p0 : W4.cell? ⟨wr.heap.size, 0, none⟩ = some (.int .i64 ha) := R4.cell (i := 0) (by decide)
          have p1 : W4.cell? ⟨wr.heap.size, 1, none⟩ = some (.int .i64 ac) := R4.cell (i := 1) (by decide)
          have p2 : W4.cell? ⟨wr.heap.size, 2, none⟩ = some (.int .i64 at') := R4.cell (i := 2) (by decide)
          have p3 : W4.cell? ⟨wr.heap.size, 3, none⟩ = some (.int .u64 hd) := R4.cell (i := 3) (by decide)
          have p4 : W4.cell? ⟨wr.heap.size, 4, none⟩ = some (.int .u64 pt) := R4.cell (i := 4) (by decide)
          have p5 : W4.cell? ⟨wr.heap.size, 5, none⟩ = some (.bool ok) := R4.cell (i := 5) (by decide)
          have ON := hide (one_ok (ha := ha) (ac := ac) (at' := at') (hd := hd) (pt := pt) (ok := ok) (owns_on HO.out B4) hm HB4.out.size)
          have NX := hide (show rp m a f (k + 1) = one m f' ⟨ha, ac, at', hd, pt, ok⟩ by simp only [rp]; rw [HRP.out, HX.out]; rfl)
          simp only [hW4]
          clear hW4 o0 o1 o2 o3 o4 o5 R4 B4
          cases hon : one m f' ⟨ha, ac, at', hd, pt, ok⟩ with
          | none =>
            rw [hon] at ON NX
            simp only at ON
            have NN := hide (show D = (130, 0, f) by rw [← HD.out, rp_none NX.out q (by omega)]; rfl)
            go_wp2_with (go_at_call 38; refine ON.out.mono ?_; rintro e w5 ⟨rfl, hb5⟩; have HB5 := hide hb5; clear hb5)
            go_ret2
            rw [NN.out]
            exact ⟨⟨none, 0, rfl, World.ownsRow_nil _ _ _ _⟩, HB4.out.trans HB5.out⟩
          | some f2 =>
            rw [hon] at ON NX
            simp only at ON
            go_wp2_with (go_at_call 38; refine ON.out.mono ?_; rintro e w5 ⟨⟨rfl, HO5⟩, hb5⟩; have HB5 := hide hb5; clear hb5)
            go_roundw
            case rel => exact ⟨k + 1, f2, by omega, by go_num, NX.out, HO5.out, HB4.out.trans HB5.out⟩
            case measure => simp [intOf]; omega
        · have hkn : ¬ (k : Int) < (q : Int) := by omega
          have hkq : k = q := by omega
          have RPQ := hide (show D = (0, m, f') by rw [← HD.out, ← hkq, HRP.out]; rfl)
          clear hkq
          go_wp2_with fail
          go_ret2
          rw [RPQ.out]
          exact ⟨⟨some ⟨g0, 0, none⟩, m, rfl, HO.out⟩, HW.out⟩
end Vw
end Go.Proofs.Ytbffhfmhjnflbaa
