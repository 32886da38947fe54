/-
  Hue: the law's own changed
-/
import Derived.Test.YtnodkeoikamonabHuQ
namespace Go.Proofs.Ytnodkeoikamonab
open Go.RowKit
set_option linter.unusedVariables false
set_option linter.unusedSimpArgs false
set_option linter.unnecessarySimpa false
set_option maxRecDepth 20000
namespace Hu
open Gr
/-- What changed tells: the view with another object. -/
def Cht (w w' : World) (e : Ending) (c : Vc) (a : Av) (q : Nat) (o : Ob) : Prop := ∃ la cp, e = .returned (vl ⟨c.rs, c.os.set q o, c.qu⟩ { a with oa := la, cb := cp }) ∧ la ≠ none ∧ Sob w' la (c.os.set q o) ∧ Ncp w' la (c.os.set q o) ∧ Below w.heap.size w w'
theorem Cx.low {Wb w : World} {g : Nat} {os : List Ob} {U : Nat → Bool} (h : Cx Wb w (some ⟨g, 0, none⟩) os U) {b i : Nat} (hb : g ≠ b) (v : Value) : Cx Wb (w.setCell ⟨b, i, none⟩ v) (some ⟨g, 0, none⟩) os U := fun j o ho => by
  obtain ⟨g', f, m, ai, ci, h1, h2, h3, h4⟩ := h j o ho
  cases h1
  exact ⟨g, f, m, ai, ci, rfl, h2, h3.setOther (by simpa using hb) _, h4⟩
/-- Objects in a row of one's own, one of them written over. -/
theorem cx_put {Wb w : World} {g : Nat} {os : List Ob} {p : Nat} {us li fi ta : Bool} {ag ge lk nx : Int} {sl : List Int} {ai : Option Addr} {ci : Nat} (h : Cx Wb w (some ⟨g, 0, none⟩) os (usd os)) (hp : p < os.length) (hs : SeesU Wb ai sl) (hn : ai = none → ci = 0) :
    Cx Wb (((((((((w.setCell ⟨g, p * 9, none⟩ (.bool us)).setCell ⟨g, p * 9 + 1, none⟩ (.bool li)).setCell ⟨g, p * 9 + 2, none⟩ (.bool fi)).setCell ⟨g, p * 9 + 3, none⟩ (.bool ta)).setCell ⟨g, p * 9 + 4, none⟩ (.int .i64 ag)).setCell ⟨g, p * 9 + 5, none⟩ (.int .u64 ge)).setCell ⟨g, p * 9 + 6, none⟩ (.int .u64 lk)).setCell ⟨g, p * 9 + 7, none⟩ (.int .u64 nx)).setCell ⟨g, p * 9 + 8, none⟩ (.slice ai sl.length ci)) (some ⟨g, 0, none⟩) (os.set p ⟨us, li, fi, ta, ag, ge, lk, nx, sl⟩) (usd (os.set p ⟨us, li, fi, ta, ag, ge, lk, nx, sl⟩)) := by
  intro i o' ho'
  have hi : i < os.length := by have := (List.getElem?_eq_some_iff.1 ho').1; simpa using this
  obtain ⟨o, ho⟩ : ∃ o, os[i]? = some o := ⟨os[i], by simp [hi]⟩
  obtain ⟨g', f, m, ai', ci', h1, h2, h3, h4, h5, h6, h7⟩ := h i o ho
  cases h1
  have R := ((((((((h3.set (p * 9) (.bool us)).set (p * 9 + 1) (.bool li)).set (p * 9 + 2) (.bool fi)).set (p * 9 + 3) (.bool ta)).set (p * 9 + 4) (.int .i64 ag)).set (p * 9 + 5) (.int .u64 ge)).set (p * 9 + 6) (.int .u64 lk)).set (p * 9 + 7) (.int .u64 nx)).set (p * 9 + 8) (.slice ai sl.length ci)
  have hu := usd_at ho'
  by_cases e : i = p
  · subst e
    rw [List.getElem?_set_self hi] at ho'
    cases ho'
    refine ⟨g, _, m, ai, ci, rfl, h2, R, h4, fun q hq => ?_, hs, hn⟩
    have : q = 0 ∨ q = 1 ∨ q = 2 ∨ q = 3 ∨ q = 4 ∨ q = 5 ∨ q = 6 ∨ q = 7 ∨ q = 8 := by omega
    rw [hu]
    rcases this with rfl | rfl | rfl | rfl | rfl | rfl | rfl | rfl | rfl <;> simp [Ob.cell]
  · rw [List.getElem?_set_ne (fun h => e h.symm), ho] at ho'
    cases ho'
    refine ⟨g, _, m, ai', ci', rfl, h2, R, h4, fun q hq => ?_, h6, h7⟩
    rw [hu]
    have hu2 := usd_at ho
    have h8 := h5 q hq
    rw [hu2] at h8
    have t : ∀ r, r < 9 → ¬ i * 9 + q = p * 9 + r := fun r hr => by omega
    have t0 : ¬ i * 9 + q = p * 9 := by omega
    simp only [t0, t 1 (by omega), t 2 (by omega), t 3 (by omega), t 4 (by omega), t 5 (by omega), t 6 (by omega), t 7 (by omega), t 8 (by omega), if_false]
    exact h8

set_option maxHeartbeats 4000000 in
theorem changed_ok {c : Vc} {a : Av} {w : World} {q : Nat} {us li fi ta : Bool} {ag ge lk nx : Int} {sl : List Int} {ai : Option Addr} {ci : Nat} (hS : Sob w a.oa c.os) (hN : Ncp w a.oa c.os) (hno : c.os.length ≤ 2199023255552) (hq : q < c.os.length) (hs : SeesU w ai sl) (hnil : ai = none → ci = 0) :
    Calls Try.prog 23 #[vl c a, .int .i64 ((q : Int) + 1), .agg #[.bool us, .bool li, .bool fi, .bool ta, .int .i64 ag, .int .u64 ge, .int .u64 lk, .int .u64 nx, .slice ai sl.length ci]] w fun e w' => Cht w w' e c a q ⟨us, li, fi, ta, ag, ge, lk, nx, sl⟩ := by
  obtain ⟨W0, hW0, B0, R0⟩ := vbox w c a
  have l0 : w.heap.size < W0.heap.size := R0.lt
  have s0 : W0.heap.size = w.heap.size + 1 := by rw [← hW0]; simp
  obtain ⟨W1, hW1, B1, R1⟩ := obox W0 us li fi ta ag ge lk nx ai sl.length ci
  have s1 : W1.heap.size = w.heap.size + 1 + 1 := by rw [← hW1]; simp [s0]
  obtain ⟨W2, hW2⟩ : ∃ W2, W1.alloc (.cells #[.int .i64 0, .int .i64 0, .int .u64 0, .slice none 0 0, .slice none 0 0, .slice none 0 0, .slice none 0 0, .slice none 0 0, .slice none 0 0, .slice none 0 0, .int .u64 0, .int .u64 0, .int .u64 0, .int .u64 0] 29) = W2 := ⟨_, rfl⟩
  have B2 : Below W1.heap.size W1 W2 := by rw [← hW2]; exact (Below.refl _ W1).alloc (Nat.le_refl _) _
  have R2 : W2.rowIs W1.heap.size 29 14 (lrow [.int .i64 0, .int .i64 0, .int .u64 0, .slice none 0 0, .slice none 0 0, .slice none 0 0, .slice none 0 0, .slice none 0 0, .slice none 0 0, .slice none 0 0, .int .u64 0, .int .u64 0, .int .u64 0, .int .u64 0]) := by rw [← hW2]; exact rowL_alloc W1 [.int .i64 0, .int .i64 0, .int .u64 0, .slice none 0 0, .slice none 0 0, .slice none 0 0, .slice none 0 0, .slice none 0 0, .slice none 0 0, .slice none 0 0, .int .u64 0, .int .u64 0, .int .u64 0, .int .u64 0] _ rfl
  have BW := hide (show Below w.heap.size w W2 from B0.trans ((B1.mono (by omega)).trans (B2.mono (by omega))))
  have s2 : W2.heap.size = w.heap.size + 1 + 1 + 1 := by rw [← hW2]; simp [s1]
  have RV2 := hide (show W2.rowIs w.heap.size 29 14 (lrow (vcl c a)) from row_on (row_on R0 B1) B2)
  have RO2 := hide (show W2.rowIs W0.heap.size 44 9 (lrow [.bool us, .bool li, .bool fi, .bool ta, .int .i64 ag, .int .u64 ge, .int .u64 lk, .int .u64 nx, .slice ai sl.length ci]) from row_on R1 B2)
  rw [s1] at R2
  rw [s0] at RO2
  have RZ2 := hide R2
  have HS2 := hide hS
  have HN2 := hide hN
  have HSL := hide hs
  have HNL := hide hnil
  have VC := hide (vcells RV2.out)
  clear B0 B1 B2 R0 R1 R2 hS hN hs hnil
  unfold Cht
  obtain ⟨ph, co, ro, aa, na, ca, ra, cr, wa, nw, cw, oa, cb, fa, nf, cf, ga, ng, cg, qa, cq, k0, k1, k2, k3⟩ := a
  simp only [vl, List.length_set]
  simp only at hW0 HS2 HN2 VC RV2
  obtain ⟨n, hn⟩ : ∃ n, c.os.length = n := ⟨_, rfl⟩
  obtain ⟨nr, hnre⟩ : ∃ nr, c.rs.length = nr := ⟨_, rfl⟩
  obtain ⟨nqz, hnqe⟩ : ∃ nqz, c.qu.length = nqz := ⟨_, rfl⟩
  simp only [hn, hnre, hnqe] at hW0 VC hno hq ⊢
  have Hn := hide hn
  have Hr := hide hnre
  have Hq := hide hnqe
  obtain ⟨ad, had⟩ : ∃ ad, oa = some ad := by
    cases hs : c.os with
    | nil => rw [hs] at hn; simp at hn; omega
    | cons o r =>
      obtain ⟨b, off, _, _, e, _⟩ := HS2.out 0 o (by rw [hs]; rfl)
      exact ⟨_, e⟩
  subst had
  obtain ⟨xs, hxl, hxc, hx1, hxo⟩ := obj_cells' HS2.out HN2.out
  rw [hn] at hxl
  have HXC := hide hxc
  have HX1 := hide hx1
  have HXO := hide hxo
  obtain ⟨iO, zO, hiO, hzO, hsO, hyO, hcO⟩ := infoO
  have c6 := VC.out.2.2.2.2.2.2.1
  have f6 : W2.frozen? ⟨w.heap.size, 6, none⟩ = false := RV2.out.frozen 6
  obtain ⟨m, hm⟩ : ∃ m, sl.length = m := ⟨_, rfl⟩
  have Hm := hide hm
  rw [hm] at hW1 RO2 ⊢
  clear hn hnre hnqe hxc hx1 hxo hm
  have hq2 : (q : Int) < (n : Int) := by omega
  have Hs2 := hide s2
  go_enter Try.func23, Try.ntmps23
  go_upto_region 1 with (fail)
  clear hW0 hW1 hW2 s0 s1 s2
  have u1 : w.heap.size < W2.heap.size := by rw [Hs2.out]; omega
  have B3 := hide (show Below W2.heap.size W2 (W2.alloc (.cells #[] 44)) from (Below.refl _ W2).alloc (Nat.le_refl _) _)
  have BW3 := hide (show Below w.heap.size w (W2.alloc (.cells #[] 44)) from BW.out.trans (B3.out.mono (by omega)))
  have c63 : (W2.alloc (.cells #[] 44)).cell? ⟨w.heap.size, 6, none⟩ = some (.slice (some ad) n cb) := (B3.out.cell (p := ⟨w.heap.size, 6, none⟩) u1).trans c6
  go_upto_region 2 with (at_builtin; refine wpList_append_opt rfl (.tmp 7) (.tmp 9) 25 rfl W2.heap.size 44 iO zO 9 64 Try.underlying25 hiO hzO hsO hyO hcO (by decide) (.slice (some ⟨W2.heap.size, 0, none⟩) 0 0) 0 [] rfl (by have := World.ownsRow_lit (base := W2.heap.size) (e := 44) (size := 9) W2 #[] 0 (by simp) (by unfold maxLen; omega) rfl; simpa using this) (some ad) n cb xs rfl (fun h => by cases h) hxl (fun ad' had q u hu => by cases had; have h1 := HXC.out q u hu; exact (BW3.out.cell (p := ad.add q) h1.2).trans h1.1) HX1.out (by unfold maxLen; omega) (by omega) (by simp) ?_; intro v4 w4 hown4 hgrow4 _; rw [Nat.zero_add, List.nil_append] at hown4; obtain ⟨la4, cp4, rfl⟩ := own_slice hown4; have B4 := hide (show Below W2.heap.size W2 w4 from B3.out.grown hgrow4 (by simp) (by simp [Value.ownBlock])); have O4 := hide hown4; have c64 := (B4.out.cell (p := ⟨w.heap.size, 6, none⟩) u1).trans c6; have f64 : w4.frozen? ⟨w.heap.size, 6, none⟩ = false := (row_on RV2.out B4.out).frozen 6; clear hown4 hgrow4)
  obtain ⟨o, ho⟩ : ∃ o, c.os[q]? = some o := ⟨c.os[q]'(by rw [Hn.out]; exact hq), by simp [Hn.out, hq]⟩
  have CX4 := hide (show Cx w w4 la4 c.os (usd c.os) from cx_of (owns_low O4.out (by omega)) Hn.out.symm HXO.out)
  have OWB := hide (fun (b : Nat) (h : (Value.slice la4 n cp4).ownBlock = some b) => (O4.out.lt b h).1)
  obtain ⟨g, f, mm, _, _, hla, hg, hrow, hmm, _⟩ := CX4.out q o ho
  subst hla
  have hg3 : w.heap.size + 1 + 1 < g := by
    have h1 := OWB.out g (by simp [Value.ownBlock])
    have := Hs2.out
    omega
  have hgw : w.heap.size < g := by omega
  obtain ⟨W5, hW5⟩ : ∃ W5, w4.setCell ⟨w.heap.size, 6, none⟩ (.slice (some ⟨g, 0, none⟩) n cp4) = W5 := ⟨_, rfl⟩
  have CX5 := hide (show Cx w W5 (some ⟨g, 0, none⟩) c.os (usd c.os) by rw [← hW5]; exact CX4.out.low (by omega) _)
  have RV5 := hide (show W5.rowIs w.heap.size 29 14 (lrow [.int .i64 ph, .int .i64 co, .int .u64 ro, .slice aa na ca, .slice ra nr cr, .slice wa nw cw, .slice (some ⟨g, 0, none⟩) n cp4, .slice fa nf cf, .slice ga ng cg, .slice qa nqz cq, .int .u64 k0, .int .u64 k1, .int .u64 k2, .int .u64 k3]) by
    rw [← hW5]
    refine ((row_on RV2.out B4.out).set 6 _).congr (fun i hi => ?_)
    by_cases e : i = 6
    · subst e; rfl
    · rw [if_neg e]
      have : i = 0 ∨ i = 1 ∨ i = 2 ∨ i = 3 ∨ i = 4 ∨ i = 5 ∨ i = 7 ∨ i = 8 ∨ i = 9 ∨ i = 10 ∨ i = 11 ∨ i = 12 ∨ i = 13 := by omega
      rcases this with rfl | rfl | rfl | rfl | rfl | rfl | rfl | rfl | rfl | rfl | rfl | rfl | rfl <;> simp [lrow, vcl, Hr.out, Hq.out])
  have RO5 := hide (show W5.rowIs (w.heap.size + 1) 44 9 (lrow [.bool us, .bool li, .bool fi, .bool ta, .int .i64 ag, .int .u64 ge, .int .u64 lk, .int .u64 nx, .slice ai m ci]) by rw [← hW5]; exact (row_on RO2.out B4.out).setOther (by simp only; omega) _)
  have RZ5 := hide (show W5.rowIs (w.heap.size + 1 + 1) 29 14 (lrow [.int .i64 0, .int .i64 0, .int .u64 0, .slice none 0 0, .slice none 0 0, .slice none 0 0, .slice none 0 0, .slice none 0 0, .slice none 0 0, .slice none 0 0, .int .u64 0, .int .u64 0, .int .u64 0, .int .u64 0]) by rw [← hW5]; exact (row_on RZ2.out B4.out).setOther (by simp only; omega) _)
  have BW5 := hide (show Below w.heap.size w W5 by rw [← hW5]; exact (BW.out.trans (B4.out.mono (by omega))).setCell (Nat.le_refl _) _)
  obtain ⟨g', f5, mm5, _, _, hla5, _, hrow5, hmm5, _⟩ := CX5.out q o ho
  cases hla5
  simp only [hW5]
  clear hW5 hrow hmm ho c63 c64 f64 f6 c6 B3 B4 O4 CX4
  have d6 : W5.cell? ⟨w.heap.size, 6, none⟩ = some (.slice (some ⟨g, 0, none⟩) n cp4) := RV5.out.cell (i := 6) (by omega)
  have e0 : W5.cell? ⟨w.heap.size + 1, 0, none⟩ = some (.bool us) := RO5.out.cell (i := 0) (by omega)
  have e1 : W5.cell? ⟨w.heap.size + 1, 1, none⟩ = some (.bool li) := RO5.out.cell (i := 1) (by omega)
  have e2 : W5.cell? ⟨w.heap.size + 1, 2, none⟩ = some (.bool fi) := RO5.out.cell (i := 2) (by omega)
  have e3 : W5.cell? ⟨w.heap.size + 1, 3, none⟩ = some (.bool ta) := RO5.out.cell (i := 3) (by omega)
  have e4 : W5.cell? ⟨w.heap.size + 1, 4, none⟩ = some (.int .i64 ag) := RO5.out.cell (i := 4) (by omega)
  have e5 : W5.cell? ⟨w.heap.size + 1, 5, none⟩ = some (.int .u64 ge) := RO5.out.cell (i := 5) (by omega)
  have e6 : W5.cell? ⟨w.heap.size + 1, 6, none⟩ = some (.int .u64 lk) := RO5.out.cell (i := 6) (by omega)
  have e7 : W5.cell? ⟨w.heap.size + 1, 7, none⟩ = some (.int .u64 nx) := RO5.out.cell (i := 7) (by omega)
  have e8 : W5.cell? ⟨w.heap.size + 1, 8, none⟩ = some (.slice ai m ci) := RO5.out.cell (i := 8) (by omega)
  have r0 := hrow5.cell (i := q * 9) (by omega)
  have r1 := hrow5.cell (i := q * 9 + 1) (by omega)
  have r2 := hrow5.cell (i := q * 9 + 2) (by omega)
  have r3 := hrow5.cell (i := q * 9 + 3) (by omega)
  have r4 := hrow5.cell (i := q * 9 + 4) (by omega)
  have r5 := hrow5.cell (i := q * 9 + 5) (by omega)
  have r6 := hrow5.cell (i := q * 9 + 6) (by omega)
  have r7 := hrow5.cell (i := q * 9 + 7) (by omega)
  have r8 := hrow5.cell (i := q * 9 + 8) (by omega)
  have rf : ∀ i, W5.frozen? ⟨g, i, none⟩ = false := fun i => hrow5.frozen i
  clear hrow5 hmm5
  go_upto_region 3 with (fail)
  obtain ⟨W6, hW6⟩ : ∃ W6, ((((((((W5.setCell ⟨g, q * 9, none⟩ (.bool us)).setCell ⟨g, q * 9 + 1, none⟩ (.bool li)).setCell ⟨g, q * 9 + 2, none⟩ (.bool fi)).setCell ⟨g, q * 9 + 3, none⟩ (.bool ta)).setCell ⟨g, q * 9 + 4, none⟩ (.int .i64 ag)).setCell ⟨g, q * 9 + 5, none⟩ (.int .u64 ge)).setCell ⟨g, q * 9 + 6, none⟩ (.int .u64 lk)).setCell ⟨g, q * 9 + 7, none⟩ (.int .u64 nx)).setCell ⟨g, q * 9 + 8, none⟩ (.slice ai m ci) = W6 := ⟨_, rfl⟩
  have CX6 := hide (show Cx w W6 (some ⟨g, 0, none⟩) (c.os.set q ⟨us, li, fi, ta, ag, ge, lk, nx, sl⟩) (usd (c.os.set q ⟨us, li, fi, ta, ag, ge, lk, nx, sl⟩)) by
    rw [← hW6, ← Hm.out]
    exact cx_put CX5.out (by rw [Hn.out]; exact hq) HSL.out HNL.out)
  have RV6 := hide (show W6.rowIs w.heap.size 29 14 _ by rw [← hW6]; exact (((((((((RV5.out.setOther (by simp only; omega) _).setOther (by simp only; omega) _).setOther (by simp only; omega) _).setOther (by simp only; omega) _).setOther (by simp only; omega) _).setOther (by simp only; omega) _).setOther (by simp only; omega) _).setOther (by simp only; omega) _).setOther (by simp only; omega) _))
  have RZ6 := hide (show W6.rowIs (w.heap.size + 1 + 1) 29 14 _ by rw [← hW6]; exact (((((((((RZ5.out.setOther (by simp only; omega) _).setOther (by simp only; omega) _).setOther (by simp only; omega) _).setOther (by simp only; omega) _).setOther (by simp only; omega) _).setOther (by simp only; omega) _).setOther (by simp only; omega) _).setOther (by simp only; omega) _).setOther (by simp only; omega) _))
  have BW6 := hide (show Below w.heap.size w W6 by
    rw [← hW6]
    repeat' refine Below.setCell ?_ (by simp only; omega) _
    exact BW5.out)
  simp only [hW6]
  clear hW6 r0 r1 r2 r3 r4 r5 r6 r7 r8 rf e0 e1 e2 e3 e4 e5 e6 e7 e8 d6 CX5 RV5 RZ5 RO5
  have x0 : W6.cell? ⟨w.heap.size, 0, none⟩ = some (.int .i64 ph) := RV6.out.cell (i := 0) (by omega)
  have x1 : W6.cell? ⟨w.heap.size, 1, none⟩ = some (.int .i64 co) := RV6.out.cell (i := 1) (by omega)
  have x2 : W6.cell? ⟨w.heap.size, 2, none⟩ = some (.int .u64 ro) := RV6.out.cell (i := 2) (by omega)
  have x3 : W6.cell? ⟨w.heap.size, 3, none⟩ = some (.slice aa na ca) := RV6.out.cell (i := 3) (by omega)
  have x4 : W6.cell? ⟨w.heap.size, 4, none⟩ = some (.slice ra nr cr) := RV6.out.cell (i := 4) (by omega)
  have x5 : W6.cell? ⟨w.heap.size, 5, none⟩ = some (.slice wa nw cw) := RV6.out.cell (i := 5) (by omega)
  have x6 : W6.cell? ⟨w.heap.size, 6, none⟩ = some (.slice (some ⟨g, 0, none⟩) n cp4) := RV6.out.cell (i := 6) (by omega)
  have x7 : W6.cell? ⟨w.heap.size, 7, none⟩ = some (.slice fa nf cf) := RV6.out.cell (i := 7) (by omega)
  have x8 : W6.cell? ⟨w.heap.size, 8, none⟩ = some (.slice ga ng cg) := RV6.out.cell (i := 8) (by omega)
  have x9 : W6.cell? ⟨w.heap.size, 9, none⟩ = some (.slice qa nqz cq) := RV6.out.cell (i := 9) (by omega)
  have x10 : W6.cell? ⟨w.heap.size, 10, none⟩ = some (.int .u64 k0) := RV6.out.cell (i := 10) (by omega)
  have x11 : W6.cell? ⟨w.heap.size, 11, none⟩ = some (.int .u64 k1) := RV6.out.cell (i := 11) (by omega)
  have x12 : W6.cell? ⟨w.heap.size, 12, none⟩ = some (.int .u64 k2) := RV6.out.cell (i := 12) (by omega)
  have x13 : W6.cell? ⟨w.heap.size, 13, none⟩ = some (.int .u64 k3) := RV6.out.cell (i := 13) (by omega)
  have z0 : W6.cell? ⟨w.heap.size + 1 + 1, 0, none⟩ = some (.int .i64 0) := RZ6.out.cell (i := 0) (by omega)
  have z1 : W6.cell? ⟨w.heap.size + 1 + 1, 1, none⟩ = some (.int .i64 0) := RZ6.out.cell (i := 1) (by omega)
  have z2 : W6.cell? ⟨w.heap.size + 1 + 1, 2, none⟩ = some (.int .u64 0) := RZ6.out.cell (i := 2) (by omega)
  have z3 : W6.cell? ⟨w.heap.size + 1 + 1, 3, none⟩ = some (.slice none 0 0) := RZ6.out.cell (i := 3) (by omega)
  have z4 : W6.cell? ⟨w.heap.size + 1 + 1, 4, none⟩ = some (.slice none 0 0) := RZ6.out.cell (i := 4) (by omega)
  have z5 : W6.cell? ⟨w.heap.size + 1 + 1, 5, none⟩ = some (.slice none 0 0) := RZ6.out.cell (i := 5) (by omega)
  have z6 : W6.cell? ⟨w.heap.size + 1 + 1, 6, none⟩ = some (.slice none 0 0) := RZ6.out.cell (i := 6) (by omega)
  have z7 : W6.cell? ⟨w.heap.size + 1 + 1, 7, none⟩ = some (.slice none 0 0) := RZ6.out.cell (i := 7) (by omega)
  have z8 : W6.cell? ⟨w.heap.size + 1 + 1, 8, none⟩ = some (.slice none 0 0) := RZ6.out.cell (i := 8) (by omega)
  have z9 : W6.cell? ⟨w.heap.size + 1 + 1, 9, none⟩ = some (.slice none 0 0) := RZ6.out.cell (i := 9) (by omega)
  have z10 : W6.cell? ⟨w.heap.size + 1 + 1, 10, none⟩ = some (.int .u64 0) := RZ6.out.cell (i := 10) (by omega)
  have z11 : W6.cell? ⟨w.heap.size + 1 + 1, 11, none⟩ = some (.int .u64 0) := RZ6.out.cell (i := 11) (by omega)
  have z12 : W6.cell? ⟨w.heap.size + 1 + 1, 12, none⟩ = some (.int .u64 0) := RZ6.out.cell (i := 12) (by omega)
  have z13 : W6.cell? ⟨w.heap.size + 1 + 1, 13, none⟩ = some (.int .u64 0) := RZ6.out.cell (i := 13) (by omega)
  have zf : ∀ i, W6.frozen? ⟨w.heap.size + 1 + 1, i, none⟩ = false := fun i => RZ6.out.frozen i
  go_wp2_with fail
  refine bodyPost_ret (v := .agg #[.int .i64 ph, .int .i64 co, .int .u64 ro, .slice aa na ca, .slice ra nr cr, .slice wa nw cw, .slice (some ⟨g, 0, none⟩) n cp4, .slice fa nf cf, .slice ga ng cg, .slice qa nqz cq, .int .u64 k0, .int .u64 k1, .int .u64 k2, .int .u64 k3]) (by simp [results, Try.results23, go_sem, *]) rfl ?_
  refine ⟨some ⟨g, 0, none⟩, cp4, rfl, by simp, ?_⟩
  rw [← and_assoc]
  have key : ∀ W7, Cx w W7 (some ⟨g, 0, none⟩) (c.os.set q ⟨us, li, fi, ta, ag, ge, lk, nx, sl⟩) (usd (c.os.set q ⟨us, li, fi, ta, ag, ge, lk, nx, sl⟩)) → Below w.heap.size w W7 → (Sob W7 (some ⟨g, 0, none⟩) (c.os.set q ⟨us, li, fi, ta, ag, ge, lk, nx, sl⟩) ∧ Ncp W7 (some ⟨g, 0, none⟩) (c.os.set q ⟨us, li, fi, ta, ag, ge, lk, nx, sl⟩)) ∧ Below w.heap.size w W7 := fun W7 h1 h2 => ⟨h1.sob' h2, h2⟩
  refine key _ ?_ ?_
  · repeat' refine Cx.low ?_ (by omega) _
    exact CX6.out
  · repeat' refine Below.setCell ?_ (by simp only; omega) _
    exact BW6.out
end Hu
end Go.Proofs.Ytnodkeoikamonab
