/-
  Lemmas: VwEp.
-/
import Derived.Test.YtecjegjnnahddaaGreatTp13
/-
  View: the package's comparison of lists of objects
-/
namespace Go.Proofs.YtecjegjnnahddaaGreat
open Go.RowKit
set_option linter.unusedVariables false
set_option linter.unusedSimpArgs false
set_option linter.unnecessarySimpa false
set_option maxRecDepth 20000
namespace Vw
open Shape
def ObE (x y : Ob) : Prop := x.us = y.us ∧ x.li = y.li ∧ x.fi = y.fi ∧ x.ta = y.ta ∧ x.ag = y.ag ∧ x.ge = y.ge ∧ x.lk = y.lk ∧ x.nx = y.nx ∧ x.ns = y.ns ∧ ∀ i, i < x.ns → x.sl i = y.sl i
theorem obs9 {w : World} {b off k : Nat} {x : Ob} {sv : Value} (h : ∀ q, q < 9 → w.cell? ⟨b, off + k * 9 + q, none⟩ = some (x.cell sv q)) : w.cell? ⟨b, off + k * 9, none⟩ = some (.bool x.us) ∧ w.cell? ⟨b, off + k * 9 + 1, none⟩ = some (.bool x.li) ∧ w.cell? ⟨b, off + k * 9 + 2, none⟩ = some (.bool x.fi) ∧ w.cell? ⟨b, off + k * 9 + 3, none⟩ = some (.bool x.ta) ∧ w.cell? ⟨b, off + k * 9 + 4, none⟩ = some (.int .i64 x.ag) ∧ w.cell? ⟨b, off + k * 9 + 5, none⟩ = some (.int .u64 x.ge) ∧ w.cell? ⟨b, off + k * 9 + 6, none⟩ = some (.int .u64 x.lk) ∧ w.cell? ⟨b, off + k * 9 + 7, none⟩ = some (.int .u64 x.nx) ∧ w.cell? ⟨b, off + k * 9 + 8, none⟩ = some sv :=
  ⟨by have := h 0 (by decide); rw [Nat.add_zero] at this; exact this, h 1 (by decide), h 2 (by decide), h 3 (by decide), h 4 (by decide), h 5 (by decide), h 6 (by decide), h 7 (by decide), h 8 (by decide)⟩
set_option maxHeartbeats 8000000 in
theorem equalObjects {w : World} {c d : Cv} {a b : Av} (h : Shows w c a) (h' : Shows w d b) (hc : Len c) (hd : Len d) :
    Calls Tryz.prog 56 #[.slice a.oa c.no a.cb, .slice b.oa d.no b.cb, .func (.func 57) #[] #[]] w fun e w' => Tells e (c.no = d.no ∧ ∀ j, j < c.no → ObE (c.ob j) (d.ob j)) ∧ Below w.heap.size w w' := by
  have H := hide h
  have H' := hide h'
  have HC := hide hc
  have HD := hide hd
  have hn1 := hc.no
  have hn2 := hd.no
  clear h h' hc hd
  by_cases hnn : c.no = d.no
  · have hnb : ((c.no : Int) != (d.no : Int)) = false := by simp; omega
    have HN := hide hnn
    clear hnn
    obtain ⟨ra, hra⟩ : ∃ x, a.oa = x := ⟨_, rfl⟩
    obtain ⟨rb, hrb⟩ : ∃ x, b.oa = x := ⟨_, rfl⟩
    rw [hra, hrb]
    have HRA := hide hra
    have HRB := hide hrb
    clear hra hrb
    go_enter Tryz.func56, Tryz.ntmps56
    go_wp2_with fail
    go_loopw [17] (fun i wr => ∃ k : Nat, k ≤ c.no ∧ i = .int .i64 k ∧ Hid (∀ j, j < k → ObE (c.ob j) (d.ob j)) ∧ Hid (Below w.heap.size w wr)) (fun i _ => c.no - (intOf i).toNat)
    case atStart => exact ⟨0, Nat.zero_le _, rfl, fun j hj => absurd hj (by omega), Below.refl _ _⟩
    case round =>
      obtain ⟨k, hk, rfl, HK, HW⟩ := hrel
      by_cases hlt : k < c.no
      · obtain ⟨b1, o1, ai, ci, e1, hb1, hc1, hs1⟩ := (H.out.below HW.out).ob k hlt
        obtain ⟨b2, o2, aj, cj, e2, hb2, hc2, hs2⟩ := (H'.out.below HW.out).ob k (by have := HN.out; omega)
        rw [HRA.out] at e1
        rw [HRB.out] at e2
        subst e1 e2
        have hkn : (k : Int) < (c.no : Int) := by omega
        have hkn2 : (k : Int) < (d.no : Int) := by have := HN.out; omega
        have SO := hide (fun (V : World) (hb : Below wr.heap.size wr V) => sameObject_ok (us := (c.ob k).us) (li := (c.ob k).li) (fi := (c.ob k).fi) (ta := (c.ob k).ta) (ag := (c.ob k).ag) (ge := (c.ob k).ge) (lk := (c.ob k).lk) (nx := (c.ob k).nx) (us' := (d.ob k).us) (li' := (d.ob k).li) (fi' := (d.ob k).fi) (ta' := (d.ob k).ta) (ag' := (d.ob k).ag) (ge' := (d.ob k).ge) (lk' := (d.ob k).lk) (nx' := (d.ob k).nx) (ci := ci) (cj := cj) (sees_on hs1 hb) (sees_on hs2 hb) (HC.out.ns k hlt) (HD.out.ns k (by have := HN.out; omega)))
        obtain ⟨p0, p1, p2, p3, p4, p5, p6, p7, p8⟩ := obs9 hc1
        have q := obs9 hc2
        clear hc1 hc2 hs1 hs2
        obtain ⟨x, hx⟩ : ∃ x, c.ob k = x := ⟨_, rfl⟩
        obtain ⟨y, hy⟩ : ∃ x, d.ob k = x := ⟨_, rfl⟩
        have HX := hide hx
        have HY := hide hy
        rw [hx] at p0 p1 p2 p3 p4 p5 p6 p7 p8
        rw [hy] at q
        rw [hx, hy] at SO
        clear hx hy
        obtain ⟨us, li, fi, ta, ag, ge, lk, nx, ns, sl⟩ := x
        obtain ⟨us', li', fi', ta', ag', ge', lk', nx', ns', sl'⟩ := y
        simp only at p0 p1 p2 p3 p4 p5 p6 p7 p8 q SO
        obtain ⟨W2, hW2, B2, R2⟩ := obox wr us li fi ta ag ge lk nx ai ns ci
        obtain ⟨W3, hW3, B3, R3⟩ := obox W2 us' li' fi' ta' ag' ge' lk' nx' aj ns' cj
        have R23 := row_on R2 B3
        have HB3 := hide (B2.trans (B3.mono B2.size))
        obtain ⟨q0, q1, q2, q3, q4, q5, q6, q7, q8⟩ := q
        have q0 := (B2.cell (p := ⟨b2, o2 + k * 9, none⟩) hb2).trans q0
        have q1 := (B2.cell (p := ⟨b2, o2 + k * 9 + 1, none⟩) hb2).trans q1
        have q2 := (B2.cell (p := ⟨b2, o2 + k * 9 + 2, none⟩) hb2).trans q2
        have q3 := (B2.cell (p := ⟨b2, o2 + k * 9 + 3, none⟩) hb2).trans q3
        have q4 := (B2.cell (p := ⟨b2, o2 + k * 9 + 4, none⟩) hb2).trans q4
        have q5 := (B2.cell (p := ⟨b2, o2 + k * 9 + 5, none⟩) hb2).trans q5
        have q6 := (B2.cell (p := ⟨b2, o2 + k * 9 + 6, none⟩) hb2).trans q6
        have q7 := (B2.cell (p := ⟨b2, o2 + k * 9 + 7, none⟩) hb2).trans q7
        have q8 := (B2.cell (p := ⟨b2, o2 + k * 9 + 8, none⟩) hb2).trans q8
        have l2 : wr.heap.size < W2.heap.size := R2.lt
        have x0 := R23.cell (i := 0) (by decide)
        have y0 := R3.cell (i := 0) (by decide)
        have x1 := R23.cell (i := 1) (by decide)
        have y1 := R3.cell (i := 1) (by decide)
        have x2 := R23.cell (i := 2) (by decide)
        have y2 := R3.cell (i := 2) (by decide)
        have x3 := R23.cell (i := 3) (by decide)
        have y3 := R3.cell (i := 3) (by decide)
        have x4 := R23.cell (i := 4) (by decide)
        have y4 := R3.cell (i := 4) (by decide)
        have x5 := R23.cell (i := 5) (by decide)
        have y5 := R3.cell (i := 5) (by decide)
        have x6 := R23.cell (i := 6) (by decide)
        have y6 := R3.cell (i := 6) (by decide)
        have x7 := R23.cell (i := 7) (by decide)
        have y7 := R3.cell (i := 7) (by decide)
        have x8 := R23.cell (i := 8) (by decide)
        have y8 := R3.cell (i := 8) (by decide)
        simp only [lrow] at x0 y0 x1 y1 x2 y2 x3 y3 x4 y4 x5 y5 x6 y6 x7 y7 x8 y8
        go_upto_region 6 with (fail)
        try simp only [hW2]
        go_upto_region 7 with (fail)
        try simp only [hW3]
        clear p0 p1 p2 p3 p4 p5 p6 p7 p8 q0 q1 q2 q3 q4 q5 q6 q7 q8 R2 R3 R23 B2 B3 hW2 hW3
        have SO3 := hide (SO.out W3 HB3.out)
        by_cases he : ObE (c.ob k) (d.ob k)
        · have HE := hide he
          clear he
          go_wp2_with (go_at_call 57; refine SO3.out.mono ?_; rintro e w1 ⟨ht, hb⟩; obtain rfl := ht.is (by have h1 := HE.out; rw [HX.out, HY.out] at h1; exact h1); have HB4 := hide hb; clear hb)
          go_roundw
          case rel => exact ⟨k + 1, by omega, by go_num, fun j hj => by (by_cases e : j < k); exact HK.out j e; (cases (show j = k by omega)); exact HE.out, HW.out.trans ((HB3.out.trans (HB4.out.mono HB3.out.size)).mono HW.out.size)⟩
          case measure => simp [intOf]; omega
        · have HE := hide he
          clear he
          go_wp2_with (go_at_call 57; refine SO3.out.mono ?_; rintro e w1 ⟨ht, hb⟩; obtain rfl := ht.isnt (fun h1 => HE.out (by rw [HX.out, HY.out]; exact h1)); have HB4 := hide hb; clear hb)
          go_ret
          exact ⟨Tells.no (fun h => HE.out (h.2 k hlt)), HW.out.trans ((HB3.out.trans (HB4.out.mono HB3.out.size)).mono HW.out.size)⟩
      · have hkn : ¬ (k : Int) < (c.no : Int) := by omega
        go_wp2
        go_ret
        exact ⟨Tells.yes ⟨HN.out, fun i hi => HK.out i (by omega)⟩, HW.out⟩
  · have hnb : ((c.no : Int) != (d.no : Int)) = true := by simp; omega
    have HH := hide hnn
    clear hnn
    go_enter Tryz.func56, Tryz.ntmps56
    go_wp2_with fail
    go_ret
    exact ⟨Tells.no (fun h => HH.out h.1), Below.refl _ _⟩
end Vw
end Go.Proofs.YtecjegjnnahddaaGreat
