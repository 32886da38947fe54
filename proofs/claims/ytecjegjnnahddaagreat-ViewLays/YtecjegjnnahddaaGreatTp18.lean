/-
  Lemmas: VwL.
-/
import Derived.Test.YtecjegjnnahddaaGreatTp09
import Derived.Test.YtecjegjnnahddaaGreatTp17
/-
  View: is a memory sound: Check of the package
-/
namespace Go.Proofs.YtecjegjnnahddaaGreat
open Go.RowKit
set_option linter.unusedVariables false
set_option linter.unusedSimpArgs false
set_option linter.unnecessarySimpa false
set_option maxRecDepth 20000
namespace Vw
open Shape

theorem cv_ok {x : Sh} {f : Nat → Int} (H : x.Ok) (hf : ∀ i, i < size x → 0 ≤ f i ∧ f i < 18446744073709551616) : (cv x f).Ok := by
  have L := lay_out x
  have Z := sizes H
  have sn : ∀ a b, Sn x.o (lst x f a b).1 := fun a b => al_sn _ _ _ _ _ (Sn.nil _)
  have o64 := H.o2
  refine ⟨fun i hi => ?_, fun j hj i hi => ?_, fun j hj i hi => ?_, ?_, ?_, fun j hj => ?_, ?_, fun j hj => ?_, ?_, ?_, ?_, fun i hi => ?_⟩
  · simp only [cv] at hi ⊢
    exact hf _ (by omega)
  · simp only [cv] at hi hj ⊢
    have := (at_root H hj).1
    exact hf _ (by omega)
  · simp only [cv, obAt] at hi hj ⊢
    have := (at_obj H hj).1
    exact hf _ (by omega)
  · have := H.k2; simp only [cv]; omega
  · have := H.h2; simp only [cv]; omega
  · have := H.r2; simp only [cv]; omega
  · simp only [cv]; omega
  · have := H.s2; simp only [cv, obAt]; omega
  · have := (sn 1 1).len; simp only [cv]; omega
  · have := (sn 2 1).len; simp only [cv]; omega
  · have := (sn 3 2).len; simp only [cv]; omega
  · exact (sn 3 2).range i hi
/-- Sound at rest. -/
def Sound (x : Sh) (f : Nat → Int) : Prop := (cv x f).ph = 0 ∧ ((lst x f 1 1).2 = 0 ∧ (lst x f 2 1).2 = 0 ∧ (lst x f 3 2).2 = 0) ∧ (cv x f).gr = [] ∧ (∀ j, j < (cv x f).no → obOk (cv x f) j) ∧ (∀ i, i ∈ (cv x f).qu → quOk (cv x f) i) ∧ HaOk (cv x f)
theorem call_yes {f : FuncId} {args : Array Value} {w : World} {p : Prop} (h : Calls Tryz.prog f args w fun e w' => Tells e p ∧ Below w.heap.size w w') (hp : p) : Calls Tryz.prog f args w fun e w' => e = .returned (.bool true) ∧ Below w.heap.size w w' :=
  h.mono (by rintro e w' ⟨ht, hb⟩; rcases ht.get with ⟨_, h2⟩ | ⟨h1, _⟩; exact ⟨h2, hb⟩; exact absurd hp h1)
theorem call_no {f : FuncId} {args : Array Value} {w : World} {p : Prop} (h : Calls Tryz.prog f args w fun e w' => Tells e p ∧ Below w.heap.size w w') (hp : ¬ p) : Calls Tryz.prog f args w fun e w' => e = .returned (.bool false) ∧ Below w.heap.size w w' :=
  h.mono (by rintro e w' ⟨ht, hb⟩; rcases ht.get with ⟨h1, _⟩ | ⟨_, h2⟩; exact absurd h1 hp; exact ⟨h2, hb⟩)
set_option maxHeartbeats 2000000 in
theorem areWhole_ok {o s h r k b off z cap : Nat} {s5 : Int} {B : Nat} {f : Nat → Int} (H : (⟨o, s, h, r, k⟩ : Sh).Ok) (hz : size ⟨o, s, h, r, k⟩ = z) (hc : z ≤ cap) {w : World} (hS : Sees w B (some ⟨b, off, none⟩) z f) (hB : B ≤ w.heap.size) (hf : ∀ i, i < z → 0 ≤ f i ∧ f i < 18446744073709551616) :
    Calls Tryz.prog 68 #[.agg #[.int .i64 (o : Int), .int .i64 (s : Int), .int .i64 (h : Int), .int .i64 (r : Int), .int .i64 (k : Int), .int .i64 s5, .slice (some ⟨b, off, none⟩) z cap]] w fun e w' => Tells e ((lst ⟨o, s, h, r, k⟩ f 1 1).2 = 0 ∧ (lst ⟨o, s, h, r, k⟩ f 2 1).2 = 0 ∧ (lst ⟨o, s, h, r, k⟩ f 3 2).2 = 0) ∧ Below w.heap.size w w' := by
  obtain ⟨W0, hW0, B0, K⟩ := mbox w o s h r k b off z cap s5
  have HB := hide B0
  have HFR := hide (fun (V : World) (hb : Below W0.heap.size W0 V) => free_ok (b := b) (off := off) (s5 := s5) H hz hc (w := V) (hS.below (K.out V hb).1 hB) (by have := (K.out V hb).1.size; omega) hf)
  have HGR := hide (fun (V : World) (hb : Below W0.heap.size W0 V) => grey_ok (b := b) (off := off) (s5 := s5) H hz hc (w := V) (hS.below (K.out V hb).1 hB) (by have := (K.out V hb).1.size; omega) hf)
  have HQU := hide (fun (V : World) (hb : Below W0.heap.size W0 V) => queue_ok (b := b) (off := off) (s5 := s5) H hz hc (w := V) (hS.below (K.out V hb).1 hB) (by have := (K.out V hb).1.size; omega) hf)
  obtain ⟨R1, hR1⟩ : ∃ R, lst ⟨o, s, h, r, k⟩ f 1 1 = R := ⟨_, rfl⟩
  obtain ⟨R2, hR2⟩ : ∃ R, lst ⟨o, s, h, r, k⟩ f 2 1 = R := ⟨_, rfl⟩
  obtain ⟨R3, hR3⟩ : ∃ R, lst ⟨o, s, h, r, k⟩ f 3 2 = R := ⟨_, rfl⟩
  rw [hR1] at HFR
  rw [hR2] at HGR
  rw [hR3] at HQU
  rw [hR1, hR2, hR3]
  clear hR1 hR2 hR3 H hz hS hf hB
  obtain ⟨-, l0, x0, x1, x2, x3, x4, x5, x6⟩ := K.out W0 (Below.refl _ _)
  clear B0
  obtain ⟨e1, he1⟩ : ∃ e, R1.2 = e := ⟨_, rfl⟩
  obtain ⟨e2, he2⟩ : ∃ e, R2.2 = e := ⟨_, rfl⟩
  obtain ⟨e3, he3⟩ : ∃ e, R3.2 = e := ⟨_, rfl⟩
  rw [he1] at HFR
  rw [he2] at HGR
  rw [he3] at HQU
  rw [he1, he2, he3]
  by_cases q1 : e1 = 0
  · by_cases q2 : e2 = 0
    · by_cases q3 : e3 = 0
      · subst q1 q2 q3
        go_enter Tryz.func68, Tryz.ntmps68
        go_wp2_with (first
    | (have hg2 := HV2.out; clear hg2; go_at_call 64; refine (HQU.out _ HV2.out).mono ?_; rintro e v3 ⟨⟨fa3, cf3, rfl, HL3⟩, hbb⟩; have HV3 := hide (HV2.out.trans (hbb.mono HV2.out.size)); clear hbb)
    | (have hg2 := HV1.out; clear hg2; go_at_call 63; refine (HGR.out _ HV1.out).mono ?_; rintro e v2 ⟨⟨fa2, cf2, rfl, HL2⟩, hbb⟩; have HV2 := hide (HV1.out.trans (hbb.mono HV1.out.size)); clear hbb; obtain ⟨-, -, z0, z1, z2, z3, z4, z5, z6⟩ := K.out v2 HV2.out)
    | (go_at_call 62; refine (HFR.out _ (Below.refl _ _)).mono ?_; rintro e v1 ⟨⟨fa1, cf1, rfl, HL1⟩, hbb⟩; have HV1 := hide hbb; clear hbb; obtain ⟨-, -, y0, y1, y2, y3, y4, y5, y6⟩ := K.out v1 HV1.out))
        go_ret
        exact ⟨Tells.yes (by simp), (K.out _ HV3.out).1⟩
      · have q3b : (e3 == 0) = false := by simp [q3]
        subst q1 q2
        go_enter Tryz.func68, Tryz.ntmps68
        go_wp2_with (first
    | (have hg2 := HV2.out; clear hg2; go_at_call 64; refine (HQU.out _ HV2.out).mono ?_; rintro e v3 ⟨⟨fa3, cf3, rfl, HL3⟩, hbb⟩; have HV3 := hide (HV2.out.trans (hbb.mono HV2.out.size)); clear hbb)
    | (have hg2 := HV1.out; clear hg2; go_at_call 63; refine (HGR.out _ HV1.out).mono ?_; rintro e v2 ⟨⟨fa2, cf2, rfl, HL2⟩, hbb⟩; have HV2 := hide (HV1.out.trans (hbb.mono HV1.out.size)); clear hbb; obtain ⟨-, -, z0, z1, z2, z3, z4, z5, z6⟩ := K.out v2 HV2.out)
    | (go_at_call 62; refine (HFR.out _ (Below.refl _ _)).mono ?_; rintro e v1 ⟨⟨fa1, cf1, rfl, HL1⟩, hbb⟩; have HV1 := hide hbb; clear hbb; obtain ⟨-, -, y0, y1, y2, y3, y4, y5, y6⟩ := K.out v1 HV1.out))
        go_ret
        exact ⟨Tells.no (fun h => q3 h.2.2), (K.out _ HV3.out).1⟩
    · have q2b : (e2 == 0) = false := by simp [q2]
      subst q1
      go_enter Tryz.func68, Tryz.ntmps68
      go_wp2_with (first
    | (have hg2 := HV2.out; clear hg2; go_at_call 64; refine (HQU.out _ HV2.out).mono ?_; rintro e v3 ⟨⟨fa3, cf3, rfl, HL3⟩, hbb⟩; have HV3 := hide (HV2.out.trans (hbb.mono HV2.out.size)); clear hbb)
    | (have hg2 := HV1.out; clear hg2; go_at_call 63; refine (HGR.out _ HV1.out).mono ?_; rintro e v2 ⟨⟨fa2, cf2, rfl, HL2⟩, hbb⟩; have HV2 := hide (HV1.out.trans (hbb.mono HV1.out.size)); clear hbb; obtain ⟨-, -, z0, z1, z2, z3, z4, z5, z6⟩ := K.out v2 HV2.out)
    | (go_at_call 62; refine (HFR.out _ (Below.refl _ _)).mono ?_; rintro e v1 ⟨⟨fa1, cf1, rfl, HL1⟩, hbb⟩; have HV1 := hide hbb; clear hbb; obtain ⟨-, -, y0, y1, y2, y3, y4, y5, y6⟩ := K.out v1 HV1.out))
      go_ret
      exact ⟨Tells.no (fun h => q2 h.2.1), (K.out _ HV3.out).1⟩
  · have q1b : (e1 == 0) = false := by simp [q1]
    go_enter Tryz.func68, Tryz.ntmps68
    go_wp2_with (first
    | (have hg2 := HV2.out; clear hg2; go_at_call 64; refine (HQU.out _ HV2.out).mono ?_; rintro e v3 ⟨⟨fa3, cf3, rfl, HL3⟩, hbb⟩; have HV3 := hide (HV2.out.trans (hbb.mono HV2.out.size)); clear hbb)
    | (have hg2 := HV1.out; clear hg2; go_at_call 63; refine (HGR.out _ HV1.out).mono ?_; rintro e v2 ⟨⟨fa2, cf2, rfl, HL2⟩, hbb⟩; have HV2 := hide (HV1.out.trans (hbb.mono HV1.out.size)); clear hbb; obtain ⟨-, -, z0, z1, z2, z3, z4, z5, z6⟩ := K.out v2 HV2.out)
    | (go_at_call 62; refine (HFR.out _ (Below.refl _ _)).mono ?_; rintro e v1 ⟨⟨fa1, cf1, rfl, HL1⟩, hbb⟩; have HV1 := hide hbb; clear hbb; obtain ⟨-, -, y0, y1, y2, y3, y4, y5, y6⟩ := K.out v1 HV1.out))
    go_ret
    exact ⟨Tells.no (fun h => q1 h.1), (K.out _ HV3.out).1⟩
set_option maxHeartbeats 4000000 in
theorem isSound_ok {o s h r k b off z cap : Nat} {s5 : Int} {B : Nat} {f : Nat → Int} (H : (⟨o, s, h, r, k⟩ : Sh).Ok) (hz : size ⟨o, s, h, r, k⟩ = z) (hc : z ≤ cap) {w : World} (hS : Sees w B (some ⟨b, off, none⟩) z f) (hB : B ≤ w.heap.size) (hf : ∀ i, i < z → 0 ≤ f i ∧ f i < 18446744073709551616) :
    Calls Tryz.prog 29 #[.agg #[.int .i64 (o : Int), .int .i64 (s : Int), .int .i64 (h : Int), .int .i64 (r : Int), .int .i64 (k : Int), .int .i64 s5, .slice (some ⟨b, off, none⟩) z cap]] w fun e w' => Tells e (Sound ⟨o, s, h, r, k⟩ f) ∧ Below w.heap.size w w' := by
  obtain ⟨W0, hW0, B0, K⟩ := mbox w o s h r k b off z cap s5
  have HB := hide B0
  have CO := hide (cv_ok (f := f) H (by rw [hz]; exact hf))
  have hnr : 0 < (cv ⟨o, s, h, r, k⟩ f).nr := H.h1
  have LK := hide (look_ok (b := b) (off := off) (s5 := s5) H hz hc (w := W0) (hS.below B0 hB) (by have := B0.size; omega) hf)
  have WH := hide (fun (V : World) (hb : Below W0.heap.size W0 V) => areWhole_ok (b := b) (off := off) (s5 := s5) H hz hc (w := V) (hS.below (K.out V hb).1 hB) (by have := (K.out V hb).1.size; omega) hf)
  have SD := hide (show Sound ⟨o, s, h, r, k⟩ f ↔ _ from Iff.rfl)
  obtain ⟨PW, hPW⟩ : ∃ p : Prop, ((lst ⟨o, s, h, r, k⟩ f 1 1).2 = 0 ∧ (lst ⟨o, s, h, r, k⟩ f 2 1).2 = 0 ∧ (lst ⟨o, s, h, r, k⟩ f 3 2).2 = 0) = p := ⟨_, rfl⟩
  obtain ⟨c, hcv⟩ : ∃ c, cv ⟨o, s, h, r, k⟩ f = c := ⟨_, rfl⟩
  obtain ⟨PS, hPS⟩ : ∃ p : Prop, Sound ⟨o, s, h, r, k⟩ f = p := ⟨_, rfl⟩
  unfold Sound at SD
  rw [hcv] at CO hnr LK SD
  rw [hPW] at WH SD
  have SD2 := hide (show PS ↔ (c.ph = 0 ∧ PW ∧ c.gr = [] ∧ (∀ j, j < c.no → obOk c j) ∧ (∀ i, i ∈ c.qu → quOk c i) ∧ HaOk c) from by rw [← hPS]; unfold Sound; rw [hcv, hPW])
  rw [hPS]
  clear hPW hcv hPS SD H hz hS hf hB
  obtain ⟨-, l0, x0, x1, x2, x3, x4, x5, x6⟩ := K.out W0 (Below.refl _ _)
  clear B0
  go_enter Tryz.func29, Tryz.ntmps29
  go_upto_region 1 with (fail)
  go_wp2_with (fail)
  refine LK.out.mono ?_
  rintro e w1 ⟨⟨a, rfl, HO⟩, hb1⟩
  obtain ⟨aa, ca, ra, cr, wa, cw, oa, cb, fa, cf, ga, cg, qa, cq⟩ := a
  simp only [vl]
  have HB1 := hide hb1
  have SH1 := hide HO.out.shows
  clear hb1 HO
  go_upto_region 2 with (fail)
  obtain ⟨W2, hW2, B2, R2⟩ := vbox w1 c ⟨aa, ca, ra, cr, wa, cw, oa, cb, fa, cf, ga, cg, qa, cq⟩
  simp only at hW2 R2
  have HB2 := hide (HB1.out.trans (B2.mono HB1.out.size))
  have HR2 := hide R2
  have SH2 := hide (SH1.out.below B2)
  have l2 : w1.heap.size < W2.heap.size := R2.lt
  simp only [hW2]
  clear hW2 x0 x1 x2 x3 x4 x5 x6 B2
  obtain ⟨-, -, x0, x1, x2, x3, x4, x5, x6⟩ := K.out W2 HB2.out
  have c0 : W2.cell? ⟨w1.heap.size, 0, none⟩ = some (.int .i64 c.ph) := R2.cell (i := 0) (by decide)
  have c1 : W2.cell? ⟨w1.heap.size, 1, none⟩ = some (.int .i64 c.co) := R2.cell (i := 1) (by decide)
  have c2 : W2.cell? ⟨w1.heap.size, 2, none⟩ = some (.int .u64 c.ro) := R2.cell (i := 2) (by decide)
  have c3 : W2.cell? ⟨w1.heap.size, 3, none⟩ = some (.slice aa c.na ca) := R2.cell (i := 3) (by decide)
  have c4 : W2.cell? ⟨w1.heap.size, 4, none⟩ = some (.slice ra c.nr cr) := R2.cell (i := 4) (by decide)
  have c5 : W2.cell? ⟨w1.heap.size, 5, none⟩ = some (.slice wa c.nw cw) := R2.cell (i := 5) (by decide)
  have c6 : W2.cell? ⟨w1.heap.size, 6, none⟩ = some (.slice oa c.no cb) := R2.cell (i := 6) (by decide)
  have c7 : W2.cell? ⟨w1.heap.size, 7, none⟩ = some (.slice fa c.fr.length cf) := R2.cell (i := 7) (by decide)
  have c8 : W2.cell? ⟨w1.heap.size, 8, none⟩ = some (.slice ga c.gr.length cg) := R2.cell (i := 8) (by decide)
  have c9 : W2.cell? ⟨w1.heap.size, 9, none⟩ = some (.slice qa c.qu.length cq) := R2.cell (i := 9) (by decide)
  have c10 : W2.cell? ⟨w1.heap.size, 10, none⟩ = some (.int .u64 (c.cn 0)) := R2.cell (i := 10) (by decide)
  have c11 : W2.cell? ⟨w1.heap.size, 11, none⟩ = some (.int .u64 (c.cn 1)) := R2.cell (i := 11) (by decide)
  have c12 : W2.cell? ⟨w1.heap.size, 12, none⟩ = some (.int .u64 (c.cn 2)) := R2.cell (i := 12) (by decide)
  have c13 : W2.cell? ⟨w1.heap.size, 13, none⟩ = some (.int .u64 (c.cn 3)) := R2.cell (i := 13) (by decide)
  clear R2
  have WH2 := hide (WH.out W2 HB2.out)
  have OB2 := hide (fun (V : World) (hb : Below W2.heap.size W2 V) => objectsSound_ok (SH2.out.below hb) CO.out)
  have QU2 := hide (fun (V : World) (hb : Below W2.heap.size W2 V) => queueSound_ok (SH2.out.below hb) CO.out)
  have HA2 := hide (fun (V : World) (hb : Below W2.heap.size W2 V) => handlesGood_ok (SH2.out.below hb) CO.out hnr)
  simp only [vl] at OB2 QU2 HA2
  by_cases qP : c.ph = 0
  · have HP := hide qP
    have qP2 : (c.ph == 0) = true := by simp [qP]
    clear qP
    by_cases qW : PW
    · by_cases qG : c.gr = []
      · have qG2 : ((c.gr.length : Int) == 0) = true := by rw [qG]; rfl
        have qN : PS ↔ ((∀ j, j < c.no → obOk c j) ∧ (∀ i, i ∈ c.qu → quOk c i) ∧ HaOk c) := SD2.out.trans ⟨fun h => h.2.2.2, fun h => ⟨HP.out, qW, qG, h⟩⟩
        have QN := hide qN
        clear qN qG
        by_cases qO : ∀ j, j < c.no → obOk c j
        · by_cases qQ : ∀ i, i ∈ c.qu → quOk c i
          · by_cases qH : HaOk c
            · have YES := hide (QN.out.2 ⟨qO, qQ, qH⟩)
              have C3 := hide (fun (V : World) (hb : Below W2.heap.size W2 V) => call_yes (HA2.out V hb) qH)
              have C2 := hide (fun (V : World) (hb : Below W2.heap.size W2 V) => call_yes (QU2.out V hb) qQ)
              have C1 := hide (fun (V : World) (hb : Below W2.heap.size W2 V) => call_yes (OB2.out V hb) qO)
              have C0 := hide (call_yes WH2.out qW)
              go_wp2_with (first | (have hg2 := HV3.out; clear hg2; go_at_call 71; refine (C3.out _ HV3.out).mono ?_; rintro e v4 ⟨rfl, hbb⟩; have HV4 := hide (HV3.out.trans (hbb.mono HV3.out.size)); clear hbb) | (have hg2 := HV2.out; clear hg2; go_at_call 70; refine (C2.out _ HV2.out).mono ?_; rintro e v3 ⟨rfl, hbb⟩; have HV3 := hide (HV2.out.trans (hbb.mono HV2.out.size)); clear hbb; have R3 := row_on HR2.out HV3.out; have g0 : v3.cell? ⟨w1.heap.size, 0, none⟩ = some (.int .i64 c.ph) := R3.cell (i := 0) (by decide); have g1 : v3.cell? ⟨w1.heap.size, 1, none⟩ = some (.int .i64 c.co) := R3.cell (i := 1) (by decide); have g2 : v3.cell? ⟨w1.heap.size, 2, none⟩ = some (.int .u64 c.ro) := R3.cell (i := 2) (by decide); have g3 : v3.cell? ⟨w1.heap.size, 3, none⟩ = some (.slice aa c.na ca) := R3.cell (i := 3) (by decide); have g4 : v3.cell? ⟨w1.heap.size, 4, none⟩ = some (.slice ra c.nr cr) := R3.cell (i := 4) (by decide); have g5 : v3.cell? ⟨w1.heap.size, 5, none⟩ = some (.slice wa c.nw cw) := R3.cell (i := 5) (by decide); have g6 : v3.cell? ⟨w1.heap.size, 6, none⟩ = some (.slice oa c.no cb) := R3.cell (i := 6) (by decide); have g7 : v3.cell? ⟨w1.heap.size, 7, none⟩ = some (.slice fa c.fr.length cf) := R3.cell (i := 7) (by decide); have g8 : v3.cell? ⟨w1.heap.size, 8, none⟩ = some (.slice ga c.gr.length cg) := R3.cell (i := 8) (by decide); have g9 : v3.cell? ⟨w1.heap.size, 9, none⟩ = some (.slice qa c.qu.length cq) := R3.cell (i := 9) (by decide); have g10 : v3.cell? ⟨w1.heap.size, 10, none⟩ = some (.int .u64 (c.cn 0)) := R3.cell (i := 10) (by decide); have g11 : v3.cell? ⟨w1.heap.size, 11, none⟩ = some (.int .u64 (c.cn 1)) := R3.cell (i := 11) (by decide); have g12 : v3.cell? ⟨w1.heap.size, 12, none⟩ = some (.int .u64 (c.cn 2)) := R3.cell (i := 12) (by decide); have g13 : v3.cell? ⟨w1.heap.size, 13, none⟩ = some (.int .u64 (c.cn 3)) := R3.cell (i := 13) (by decide); clear R3) | (have hg2 := HV1.out; clear hg2; go_at_call 69; refine (C1.out _ HV1.out).mono ?_; rintro e v2 ⟨rfl, hbb⟩; have HV2 := hide (HV1.out.trans (hbb.mono HV1.out.size)); clear hbb; have R3 := row_on HR2.out HV2.out; have e0 : v2.cell? ⟨w1.heap.size, 0, none⟩ = some (.int .i64 c.ph) := R3.cell (i := 0) (by decide); have e1 : v2.cell? ⟨w1.heap.size, 1, none⟩ = some (.int .i64 c.co) := R3.cell (i := 1) (by decide); have e2 : v2.cell? ⟨w1.heap.size, 2, none⟩ = some (.int .u64 c.ro) := R3.cell (i := 2) (by decide); have e3 : v2.cell? ⟨w1.heap.size, 3, none⟩ = some (.slice aa c.na ca) := R3.cell (i := 3) (by decide); have e4 : v2.cell? ⟨w1.heap.size, 4, none⟩ = some (.slice ra c.nr cr) := R3.cell (i := 4) (by decide); have e5 : v2.cell? ⟨w1.heap.size, 5, none⟩ = some (.slice wa c.nw cw) := R3.cell (i := 5) (by decide); have e6 : v2.cell? ⟨w1.heap.size, 6, none⟩ = some (.slice oa c.no cb) := R3.cell (i := 6) (by decide); have e7 : v2.cell? ⟨w1.heap.size, 7, none⟩ = some (.slice fa c.fr.length cf) := R3.cell (i := 7) (by decide); have e8 : v2.cell? ⟨w1.heap.size, 8, none⟩ = some (.slice ga c.gr.length cg) := R3.cell (i := 8) (by decide); have e9 : v2.cell? ⟨w1.heap.size, 9, none⟩ = some (.slice qa c.qu.length cq) := R3.cell (i := 9) (by decide); have e10 : v2.cell? ⟨w1.heap.size, 10, none⟩ = some (.int .u64 (c.cn 0)) := R3.cell (i := 10) (by decide); have e11 : v2.cell? ⟨w1.heap.size, 11, none⟩ = some (.int .u64 (c.cn 1)) := R3.cell (i := 11) (by decide); have e12 : v2.cell? ⟨w1.heap.size, 12, none⟩ = some (.int .u64 (c.cn 2)) := R3.cell (i := 12) (by decide); have e13 : v2.cell? ⟨w1.heap.size, 13, none⟩ = some (.int .u64 (c.cn 3)) := R3.cell (i := 13) (by decide); clear R3) | (go_at_call 68; refine C0.out.mono ?_; rintro e v1 ⟨rfl, hbb⟩; have HV1 := hide hbb; clear hbb; have R3 := row_on HR2.out HV1.out; have d0 : v1.cell? ⟨w1.heap.size, 0, none⟩ = some (.int .i64 c.ph) := R3.cell (i := 0) (by decide); have d1 : v1.cell? ⟨w1.heap.size, 1, none⟩ = some (.int .i64 c.co) := R3.cell (i := 1) (by decide); have d2 : v1.cell? ⟨w1.heap.size, 2, none⟩ = some (.int .u64 c.ro) := R3.cell (i := 2) (by decide); have d3 : v1.cell? ⟨w1.heap.size, 3, none⟩ = some (.slice aa c.na ca) := R3.cell (i := 3) (by decide); have d4 : v1.cell? ⟨w1.heap.size, 4, none⟩ = some (.slice ra c.nr cr) := R3.cell (i := 4) (by decide); have d5 : v1.cell? ⟨w1.heap.size, 5, none⟩ = some (.slice wa c.nw cw) := R3.cell (i := 5) (by decide); have d6 : v1.cell? ⟨w1.heap.size, 6, none⟩ = some (.slice oa c.no cb) := R3.cell (i := 6) (by decide); have d7 : v1.cell? ⟨w1.heap.size, 7, none⟩ = some (.slice fa c.fr.length cf) := R3.cell (i := 7) (by decide); have d8 : v1.cell? ⟨w1.heap.size, 8, none⟩ = some (.slice ga c.gr.length cg) := R3.cell (i := 8) (by decide); have d9 : v1.cell? ⟨w1.heap.size, 9, none⟩ = some (.slice qa c.qu.length cq) := R3.cell (i := 9) (by decide); have d10 : v1.cell? ⟨w1.heap.size, 10, none⟩ = some (.int .u64 (c.cn 0)) := R3.cell (i := 10) (by decide); have d11 : v1.cell? ⟨w1.heap.size, 11, none⟩ = some (.int .u64 (c.cn 1)) := R3.cell (i := 11) (by decide); have d12 : v1.cell? ⟨w1.heap.size, 12, none⟩ = some (.int .u64 (c.cn 2)) := R3.cell (i := 12) (by decide); have d13 : v1.cell? ⟨w1.heap.size, 13, none⟩ = some (.int .u64 (c.cn 3)) := R3.cell (i := 13) (by decide); clear R3))
              go_ret
              exact ⟨Tells.yes YES.out, (K.out _ (HB2.out.trans (HV4.out.mono HB2.out.size))).1⟩
            · have NO := hide (show ¬ PS from fun h => qH (QN.out.1 h).2.2)
              have C3 := hide (fun (V : World) (hb : Below W2.heap.size W2 V) => call_no (HA2.out V hb) qH)
              have C2 := hide (fun (V : World) (hb : Below W2.heap.size W2 V) => call_yes (QU2.out V hb) qQ)
              have C1 := hide (fun (V : World) (hb : Below W2.heap.size W2 V) => call_yes (OB2.out V hb) qO)
              have C0 := hide (call_yes WH2.out qW)
              go_wp2_with (first | (have hg2 := HV3.out; clear hg2; go_at_call 71; refine (C3.out _ HV3.out).mono ?_; rintro e v4 ⟨rfl, hbb⟩; have HV4 := hide (HV3.out.trans (hbb.mono HV3.out.size)); clear hbb) | (have hg2 := HV2.out; clear hg2; go_at_call 70; refine (C2.out _ HV2.out).mono ?_; rintro e v3 ⟨rfl, hbb⟩; have HV3 := hide (HV2.out.trans (hbb.mono HV2.out.size)); clear hbb; have R3 := row_on HR2.out HV3.out; have g0 : v3.cell? ⟨w1.heap.size, 0, none⟩ = some (.int .i64 c.ph) := R3.cell (i := 0) (by decide); have g1 : v3.cell? ⟨w1.heap.size, 1, none⟩ = some (.int .i64 c.co) := R3.cell (i := 1) (by decide); have g2 : v3.cell? ⟨w1.heap.size, 2, none⟩ = some (.int .u64 c.ro) := R3.cell (i := 2) (by decide); have g3 : v3.cell? ⟨w1.heap.size, 3, none⟩ = some (.slice aa c.na ca) := R3.cell (i := 3) (by decide); have g4 : v3.cell? ⟨w1.heap.size, 4, none⟩ = some (.slice ra c.nr cr) := R3.cell (i := 4) (by decide); have g5 : v3.cell? ⟨w1.heap.size, 5, none⟩ = some (.slice wa c.nw cw) := R3.cell (i := 5) (by decide); have g6 : v3.cell? ⟨w1.heap.size, 6, none⟩ = some (.slice oa c.no cb) := R3.cell (i := 6) (by decide); have g7 : v3.cell? ⟨w1.heap.size, 7, none⟩ = some (.slice fa c.fr.length cf) := R3.cell (i := 7) (by decide); have g8 : v3.cell? ⟨w1.heap.size, 8, none⟩ = some (.slice ga c.gr.length cg) := R3.cell (i := 8) (by decide); have g9 : v3.cell? ⟨w1.heap.size, 9, none⟩ = some (.slice qa c.qu.length cq) := R3.cell (i := 9) (by decide); have g10 : v3.cell? ⟨w1.heap.size, 10, none⟩ = some (.int .u64 (c.cn 0)) := R3.cell (i := 10) (by decide); have g11 : v3.cell? ⟨w1.heap.size, 11, none⟩ = some (.int .u64 (c.cn 1)) := R3.cell (i := 11) (by decide); have g12 : v3.cell? ⟨w1.heap.size, 12, none⟩ = some (.int .u64 (c.cn 2)) := R3.cell (i := 12) (by decide); have g13 : v3.cell? ⟨w1.heap.size, 13, none⟩ = some (.int .u64 (c.cn 3)) := R3.cell (i := 13) (by decide); clear R3) | (have hg2 := HV1.out; clear hg2; go_at_call 69; refine (C1.out _ HV1.out).mono ?_; rintro e v2 ⟨rfl, hbb⟩; have HV2 := hide (HV1.out.trans (hbb.mono HV1.out.size)); clear hbb; have R3 := row_on HR2.out HV2.out; have e0 : v2.cell? ⟨w1.heap.size, 0, none⟩ = some (.int .i64 c.ph) := R3.cell (i := 0) (by decide); have e1 : v2.cell? ⟨w1.heap.size, 1, none⟩ = some (.int .i64 c.co) := R3.cell (i := 1) (by decide); have e2 : v2.cell? ⟨w1.heap.size, 2, none⟩ = some (.int .u64 c.ro) := R3.cell (i := 2) (by decide); have e3 : v2.cell? ⟨w1.heap.size, 3, none⟩ = some (.slice aa c.na ca) := R3.cell (i := 3) (by decide); have e4 : v2.cell? ⟨w1.heap.size, 4, none⟩ = some (.slice ra c.nr cr) := R3.cell (i := 4) (by decide); have e5 : v2.cell? ⟨w1.heap.size, 5, none⟩ = some (.slice wa c.nw cw) := R3.cell (i := 5) (by decide); have e6 : v2.cell? ⟨w1.heap.size, 6, none⟩ = some (.slice oa c.no cb) := R3.cell (i := 6) (by decide); have e7 : v2.cell? ⟨w1.heap.size, 7, none⟩ = some (.slice fa c.fr.length cf) := R3.cell (i := 7) (by decide); have e8 : v2.cell? ⟨w1.heap.size, 8, none⟩ = some (.slice ga c.gr.length cg) := R3.cell (i := 8) (by decide); have e9 : v2.cell? ⟨w1.heap.size, 9, none⟩ = some (.slice qa c.qu.length cq) := R3.cell (i := 9) (by decide); have e10 : v2.cell? ⟨w1.heap.size, 10, none⟩ = some (.int .u64 (c.cn 0)) := R3.cell (i := 10) (by decide); have e11 : v2.cell? ⟨w1.heap.size, 11, none⟩ = some (.int .u64 (c.cn 1)) := R3.cell (i := 11) (by decide); have e12 : v2.cell? ⟨w1.heap.size, 12, none⟩ = some (.int .u64 (c.cn 2)) := R3.cell (i := 12) (by decide); have e13 : v2.cell? ⟨w1.heap.size, 13, none⟩ = some (.int .u64 (c.cn 3)) := R3.cell (i := 13) (by decide); clear R3) | (go_at_call 68; refine C0.out.mono ?_; rintro e v1 ⟨rfl, hbb⟩; have HV1 := hide hbb; clear hbb; have R3 := row_on HR2.out HV1.out; have d0 : v1.cell? ⟨w1.heap.size, 0, none⟩ = some (.int .i64 c.ph) := R3.cell (i := 0) (by decide); have d1 : v1.cell? ⟨w1.heap.size, 1, none⟩ = some (.int .i64 c.co) := R3.cell (i := 1) (by decide); have d2 : v1.cell? ⟨w1.heap.size, 2, none⟩ = some (.int .u64 c.ro) := R3.cell (i := 2) (by decide); have d3 : v1.cell? ⟨w1.heap.size, 3, none⟩ = some (.slice aa c.na ca) := R3.cell (i := 3) (by decide); have d4 : v1.cell? ⟨w1.heap.size, 4, none⟩ = some (.slice ra c.nr cr) := R3.cell (i := 4) (by decide); have d5 : v1.cell? ⟨w1.heap.size, 5, none⟩ = some (.slice wa c.nw cw) := R3.cell (i := 5) (by decide); have d6 : v1.cell? ⟨w1.heap.size, 6, none⟩ = some (.slice oa c.no cb) := R3.cell (i := 6) (by decide); have d7 : v1.cell? ⟨w1.heap.size, 7, none⟩ = some (.slice fa c.fr.length cf) := R3.cell (i := 7) (by decide); have d8 : v1.cell? ⟨w1.heap.size, 8, none⟩ = some (.slice ga c.gr.length cg) := R3.cell (i := 8) (by decide); have d9 : v1.cell? ⟨w1.heap.size, 9, none⟩ = some (.slice qa c.qu.length cq) := R3.cell (i := 9) (by decide); have d10 : v1.cell? ⟨w1.heap.size, 10, none⟩ = some (.int .u64 (c.cn 0)) := R3.cell (i := 10) (by decide); have d11 : v1.cell? ⟨w1.heap.size, 11, none⟩ = some (.int .u64 (c.cn 1)) := R3.cell (i := 11) (by decide); have d12 : v1.cell? ⟨w1.heap.size, 12, none⟩ = some (.int .u64 (c.cn 2)) := R3.cell (i := 12) (by decide); have d13 : v1.cell? ⟨w1.heap.size, 13, none⟩ = some (.int .u64 (c.cn 3)) := R3.cell (i := 13) (by decide); clear R3))
              go_ret
              exact ⟨Tells.no NO.out, (K.out _ (HB2.out.trans (HV4.out.mono HB2.out.size))).1⟩
          · have NO := hide (show ¬ PS from fun h => qQ (QN.out.1 h).2.1)
            have C2 := hide (fun (V : World) (hb : Below W2.heap.size W2 V) => call_no (QU2.out V hb) qQ)
            have C1 := hide (fun (V : World) (hb : Below W2.heap.size W2 V) => call_yes (OB2.out V hb) qO)
            have C0 := hide (call_yes WH2.out qW)
            go_wp2_with (first | (have hg2 := HV2.out; clear hg2; go_at_call 70; refine (C2.out _ HV2.out).mono ?_; rintro e v3 ⟨rfl, hbb⟩; have HV3 := hide (HV2.out.trans (hbb.mono HV2.out.size)); clear hbb; have R3 := row_on HR2.out HV3.out; have g0 : v3.cell? ⟨w1.heap.size, 0, none⟩ = some (.int .i64 c.ph) := R3.cell (i := 0) (by decide); have g1 : v3.cell? ⟨w1.heap.size, 1, none⟩ = some (.int .i64 c.co) := R3.cell (i := 1) (by decide); have g2 : v3.cell? ⟨w1.heap.size, 2, none⟩ = some (.int .u64 c.ro) := R3.cell (i := 2) (by decide); have g3 : v3.cell? ⟨w1.heap.size, 3, none⟩ = some (.slice aa c.na ca) := R3.cell (i := 3) (by decide); have g4 : v3.cell? ⟨w1.heap.size, 4, none⟩ = some (.slice ra c.nr cr) := R3.cell (i := 4) (by decide); have g5 : v3.cell? ⟨w1.heap.size, 5, none⟩ = some (.slice wa c.nw cw) := R3.cell (i := 5) (by decide); have g6 : v3.cell? ⟨w1.heap.size, 6, none⟩ = some (.slice oa c.no cb) := R3.cell (i := 6) (by decide); have g7 : v3.cell? ⟨w1.heap.size, 7, none⟩ = some (.slice fa c.fr.length cf) := R3.cell (i := 7) (by decide); have g8 : v3.cell? ⟨w1.heap.size, 8, none⟩ = some (.slice ga c.gr.length cg) := R3.cell (i := 8) (by decide); have g9 : v3.cell? ⟨w1.heap.size, 9, none⟩ = some (.slice qa c.qu.length cq) := R3.cell (i := 9) (by decide); have g10 : v3.cell? ⟨w1.heap.size, 10, none⟩ = some (.int .u64 (c.cn 0)) := R3.cell (i := 10) (by decide); have g11 : v3.cell? ⟨w1.heap.size, 11, none⟩ = some (.int .u64 (c.cn 1)) := R3.cell (i := 11) (by decide); have g12 : v3.cell? ⟨w1.heap.size, 12, none⟩ = some (.int .u64 (c.cn 2)) := R3.cell (i := 12) (by decide); have g13 : v3.cell? ⟨w1.heap.size, 13, none⟩ = some (.int .u64 (c.cn 3)) := R3.cell (i := 13) (by decide); clear R3) | (have hg2 := HV1.out; clear hg2; go_at_call 69; refine (C1.out _ HV1.out).mono ?_; rintro e v2 ⟨rfl, hbb⟩; have HV2 := hide (HV1.out.trans (hbb.mono HV1.out.size)); clear hbb; have R3 := row_on HR2.out HV2.out; have e0 : v2.cell? ⟨w1.heap.size, 0, none⟩ = some (.int .i64 c.ph) := R3.cell (i := 0) (by decide); have e1 : v2.cell? ⟨w1.heap.size, 1, none⟩ = some (.int .i64 c.co) := R3.cell (i := 1) (by decide); have e2 : v2.cell? ⟨w1.heap.size, 2, none⟩ = some (.int .u64 c.ro) := R3.cell (i := 2) (by decide); have e3 : v2.cell? ⟨w1.heap.size, 3, none⟩ = some (.slice aa c.na ca) := R3.cell (i := 3) (by decide); have e4 : v2.cell? ⟨w1.heap.size, 4, none⟩ = some (.slice ra c.nr cr) := R3.cell (i := 4) (by decide); have e5 : v2.cell? ⟨w1.heap.size, 5, none⟩ = some (.slice wa c.nw cw) := R3.cell (i := 5) (by decide); have e6 : v2.cell? ⟨w1.heap.size, 6, none⟩ = some (.slice oa c.no cb) := R3.cell (i := 6) (by decide); have e7 : v2.cell? ⟨w1.heap.size, 7, none⟩ = some (.slice fa c.fr.length cf) := R3.cell (i := 7) (by decide); have e8 : v2.cell? ⟨w1.heap.size, 8, none⟩ = some (.slice ga c.gr.length cg) := R3.cell (i := 8) (by decide); have e9 : v2.cell? ⟨w1.heap.size, 9, none⟩ = some (.slice qa c.qu.length cq) := R3.cell (i := 9) (by decide); have e10 : v2.cell? ⟨w1.heap.size, 10, none⟩ = some (.int .u64 (c.cn 0)) := R3.cell (i := 10) (by decide); have e11 : v2.cell? ⟨w1.heap.size, 11, none⟩ = some (.int .u64 (c.cn 1)) := R3.cell (i := 11) (by decide); have e12 : v2.cell? ⟨w1.heap.size, 12, none⟩ = some (.int .u64 (c.cn 2)) := R3.cell (i := 12) (by decide); have e13 : v2.cell? ⟨w1.heap.size, 13, none⟩ = some (.int .u64 (c.cn 3)) := R3.cell (i := 13) (by decide); clear R3) | (go_at_call 68; refine C0.out.mono ?_; rintro e v1 ⟨rfl, hbb⟩; have HV1 := hide hbb; clear hbb; have R3 := row_on HR2.out HV1.out; have d0 : v1.cell? ⟨w1.heap.size, 0, none⟩ = some (.int .i64 c.ph) := R3.cell (i := 0) (by decide); have d1 : v1.cell? ⟨w1.heap.size, 1, none⟩ = some (.int .i64 c.co) := R3.cell (i := 1) (by decide); have d2 : v1.cell? ⟨w1.heap.size, 2, none⟩ = some (.int .u64 c.ro) := R3.cell (i := 2) (by decide); have d3 : v1.cell? ⟨w1.heap.size, 3, none⟩ = some (.slice aa c.na ca) := R3.cell (i := 3) (by decide); have d4 : v1.cell? ⟨w1.heap.size, 4, none⟩ = some (.slice ra c.nr cr) := R3.cell (i := 4) (by decide); have d5 : v1.cell? ⟨w1.heap.size, 5, none⟩ = some (.slice wa c.nw cw) := R3.cell (i := 5) (by decide); have d6 : v1.cell? ⟨w1.heap.size, 6, none⟩ = some (.slice oa c.no cb) := R3.cell (i := 6) (by decide); have d7 : v1.cell? ⟨w1.heap.size, 7, none⟩ = some (.slice fa c.fr.length cf) := R3.cell (i := 7) (by decide); have d8 : v1.cell? ⟨w1.heap.size, 8, none⟩ = some (.slice ga c.gr.length cg) := R3.cell (i := 8) (by decide); have d9 : v1.cell? ⟨w1.heap.size, 9, none⟩ = some (.slice qa c.qu.length cq) := R3.cell (i := 9) (by decide); have d10 : v1.cell? ⟨w1.heap.size, 10, none⟩ = some (.int .u64 (c.cn 0)) := R3.cell (i := 10) (by decide); have d11 : v1.cell? ⟨w1.heap.size, 11, none⟩ = some (.int .u64 (c.cn 1)) := R3.cell (i := 11) (by decide); have d12 : v1.cell? ⟨w1.heap.size, 12, none⟩ = some (.int .u64 (c.cn 2)) := R3.cell (i := 12) (by decide); have d13 : v1.cell? ⟨w1.heap.size, 13, none⟩ = some (.int .u64 (c.cn 3)) := R3.cell (i := 13) (by decide); clear R3))
            go_ret
            exact ⟨Tells.no NO.out, (K.out _ (HB2.out.trans (HV3.out.mono HB2.out.size))).1⟩
        · have NO := hide (show ¬ PS from fun h => qO (QN.out.1 h).1)
          have C1 := hide (fun (V : World) (hb : Below W2.heap.size W2 V) => call_no (OB2.out V hb) qO)
          have C0 := hide (call_yes WH2.out qW)
          go_wp2_with (first | (have hg2 := HV1.out; clear hg2; go_at_call 69; refine (C1.out _ HV1.out).mono ?_; rintro e v2 ⟨rfl, hbb⟩; have HV2 := hide (HV1.out.trans (hbb.mono HV1.out.size)); clear hbb; have R3 := row_on HR2.out HV2.out; have e0 : v2.cell? ⟨w1.heap.size, 0, none⟩ = some (.int .i64 c.ph) := R3.cell (i := 0) (by decide); have e1 : v2.cell? ⟨w1.heap.size, 1, none⟩ = some (.int .i64 c.co) := R3.cell (i := 1) (by decide); have e2 : v2.cell? ⟨w1.heap.size, 2, none⟩ = some (.int .u64 c.ro) := R3.cell (i := 2) (by decide); have e3 : v2.cell? ⟨w1.heap.size, 3, none⟩ = some (.slice aa c.na ca) := R3.cell (i := 3) (by decide); have e4 : v2.cell? ⟨w1.heap.size, 4, none⟩ = some (.slice ra c.nr cr) := R3.cell (i := 4) (by decide); have e5 : v2.cell? ⟨w1.heap.size, 5, none⟩ = some (.slice wa c.nw cw) := R3.cell (i := 5) (by decide); have e6 : v2.cell? ⟨w1.heap.size, 6, none⟩ = some (.slice oa c.no cb) := R3.cell (i := 6) (by decide); have e7 : v2.cell? ⟨w1.heap.size, 7, none⟩ = some (.slice fa c.fr.length cf) := R3.cell (i := 7) (by decide); have e8 : v2.cell? ⟨w1.heap.size, 8, none⟩ = some (.slice ga c.gr.length cg) := R3.cell (i := 8) (by decide); have e9 : v2.cell? ⟨w1.heap.size, 9, none⟩ = some (.slice qa c.qu.length cq) := R3.cell (i := 9) (by decide); have e10 : v2.cell? ⟨w1.heap.size, 10, none⟩ = some (.int .u64 (c.cn 0)) := R3.cell (i := 10) (by decide); have e11 : v2.cell? ⟨w1.heap.size, 11, none⟩ = some (.int .u64 (c.cn 1)) := R3.cell (i := 11) (by decide); have e12 : v2.cell? ⟨w1.heap.size, 12, none⟩ = some (.int .u64 (c.cn 2)) := R3.cell (i := 12) (by decide); have e13 : v2.cell? ⟨w1.heap.size, 13, none⟩ = some (.int .u64 (c.cn 3)) := R3.cell (i := 13) (by decide); clear R3) | (go_at_call 68; refine C0.out.mono ?_; rintro e v1 ⟨rfl, hbb⟩; have HV1 := hide hbb; clear hbb; have R3 := row_on HR2.out HV1.out; have d0 : v1.cell? ⟨w1.heap.size, 0, none⟩ = some (.int .i64 c.ph) := R3.cell (i := 0) (by decide); have d1 : v1.cell? ⟨w1.heap.size, 1, none⟩ = some (.int .i64 c.co) := R3.cell (i := 1) (by decide); have d2 : v1.cell? ⟨w1.heap.size, 2, none⟩ = some (.int .u64 c.ro) := R3.cell (i := 2) (by decide); have d3 : v1.cell? ⟨w1.heap.size, 3, none⟩ = some (.slice aa c.na ca) := R3.cell (i := 3) (by decide); have d4 : v1.cell? ⟨w1.heap.size, 4, none⟩ = some (.slice ra c.nr cr) := R3.cell (i := 4) (by decide); have d5 : v1.cell? ⟨w1.heap.size, 5, none⟩ = some (.slice wa c.nw cw) := R3.cell (i := 5) (by decide); have d6 : v1.cell? ⟨w1.heap.size, 6, none⟩ = some (.slice oa c.no cb) := R3.cell (i := 6) (by decide); have d7 : v1.cell? ⟨w1.heap.size, 7, none⟩ = some (.slice fa c.fr.length cf) := R3.cell (i := 7) (by decide); have d8 : v1.cell? ⟨w1.heap.size, 8, none⟩ = some (.slice ga c.gr.length cg) := R3.cell (i := 8) (by decide); have d9 : v1.cell? ⟨w1.heap.size, 9, none⟩ = some (.slice qa c.qu.length cq) := R3.cell (i := 9) (by decide); have d10 : v1.cell? ⟨w1.heap.size, 10, none⟩ = some (.int .u64 (c.cn 0)) := R3.cell (i := 10) (by decide); have d11 : v1.cell? ⟨w1.heap.size, 11, none⟩ = some (.int .u64 (c.cn 1)) := R3.cell (i := 11) (by decide); have d12 : v1.cell? ⟨w1.heap.size, 12, none⟩ = some (.int .u64 (c.cn 2)) := R3.cell (i := 12) (by decide); have d13 : v1.cell? ⟨w1.heap.size, 13, none⟩ = some (.int .u64 (c.cn 3)) := R3.cell (i := 13) (by decide); clear R3))
          go_ret
          exact ⟨Tells.no NO.out, (K.out _ (HB2.out.trans (HV2.out.mono HB2.out.size))).1⟩
      · have qG2 : ¬ c.gr.length = 0 := fun h => qG (List.eq_nil_of_length_eq_zero h)
        have qG3 : ((c.gr.length : Int) == 0) = false := by simp; omega
        have NO := hide (show ¬ PS from fun h => qG (SD2.out.1 h).2.2.1)
        clear qG
        have C0 := hide (call_yes WH2.out qW)
        go_wp2_with (first | (go_at_call 68; refine C0.out.mono ?_; rintro e v1 ⟨rfl, hbb⟩; have HV1 := hide hbb; clear hbb; have R3 := row_on HR2.out HV1.out; have d0 : v1.cell? ⟨w1.heap.size, 0, none⟩ = some (.int .i64 c.ph) := R3.cell (i := 0) (by decide); have d1 : v1.cell? ⟨w1.heap.size, 1, none⟩ = some (.int .i64 c.co) := R3.cell (i := 1) (by decide); have d2 : v1.cell? ⟨w1.heap.size, 2, none⟩ = some (.int .u64 c.ro) := R3.cell (i := 2) (by decide); have d3 : v1.cell? ⟨w1.heap.size, 3, none⟩ = some (.slice aa c.na ca) := R3.cell (i := 3) (by decide); have d4 : v1.cell? ⟨w1.heap.size, 4, none⟩ = some (.slice ra c.nr cr) := R3.cell (i := 4) (by decide); have d5 : v1.cell? ⟨w1.heap.size, 5, none⟩ = some (.slice wa c.nw cw) := R3.cell (i := 5) (by decide); have d6 : v1.cell? ⟨w1.heap.size, 6, none⟩ = some (.slice oa c.no cb) := R3.cell (i := 6) (by decide); have d7 : v1.cell? ⟨w1.heap.size, 7, none⟩ = some (.slice fa c.fr.length cf) := R3.cell (i := 7) (by decide); have d8 : v1.cell? ⟨w1.heap.size, 8, none⟩ = some (.slice ga c.gr.length cg) := R3.cell (i := 8) (by decide); have d9 : v1.cell? ⟨w1.heap.size, 9, none⟩ = some (.slice qa c.qu.length cq) := R3.cell (i := 9) (by decide); have d10 : v1.cell? ⟨w1.heap.size, 10, none⟩ = some (.int .u64 (c.cn 0)) := R3.cell (i := 10) (by decide); have d11 : v1.cell? ⟨w1.heap.size, 11, none⟩ = some (.int .u64 (c.cn 1)) := R3.cell (i := 11) (by decide); have d12 : v1.cell? ⟨w1.heap.size, 12, none⟩ = some (.int .u64 (c.cn 2)) := R3.cell (i := 12) (by decide); have d13 : v1.cell? ⟨w1.heap.size, 13, none⟩ = some (.int .u64 (c.cn 3)) := R3.cell (i := 13) (by decide); clear R3))
        go_ret
        exact ⟨Tells.no NO.out, (K.out _ (HB2.out.trans (HV1.out.mono HB2.out.size))).1⟩
    · have NO := hide (show ¬ PS from fun h => qW (SD2.out.1 h).2.1)
      have C0 := hide (call_no WH2.out qW)
      go_wp2_with (first | (go_at_call 68; refine C0.out.mono ?_; rintro e v1 ⟨rfl, hbb⟩; have HV1 := hide hbb; clear hbb; have R3 := row_on HR2.out HV1.out; have d0 : v1.cell? ⟨w1.heap.size, 0, none⟩ = some (.int .i64 c.ph) := R3.cell (i := 0) (by decide); have d1 : v1.cell? ⟨w1.heap.size, 1, none⟩ = some (.int .i64 c.co) := R3.cell (i := 1) (by decide); have d2 : v1.cell? ⟨w1.heap.size, 2, none⟩ = some (.int .u64 c.ro) := R3.cell (i := 2) (by decide); have d3 : v1.cell? ⟨w1.heap.size, 3, none⟩ = some (.slice aa c.na ca) := R3.cell (i := 3) (by decide); have d4 : v1.cell? ⟨w1.heap.size, 4, none⟩ = some (.slice ra c.nr cr) := R3.cell (i := 4) (by decide); have d5 : v1.cell? ⟨w1.heap.size, 5, none⟩ = some (.slice wa c.nw cw) := R3.cell (i := 5) (by decide); have d6 : v1.cell? ⟨w1.heap.size, 6, none⟩ = some (.slice oa c.no cb) := R3.cell (i := 6) (by decide); have d7 : v1.cell? ⟨w1.heap.size, 7, none⟩ = some (.slice fa c.fr.length cf) := R3.cell (i := 7) (by decide); have d8 : v1.cell? ⟨w1.heap.size, 8, none⟩ = some (.slice ga c.gr.length cg) := R3.cell (i := 8) (by decide); have d9 : v1.cell? ⟨w1.heap.size, 9, none⟩ = some (.slice qa c.qu.length cq) := R3.cell (i := 9) (by decide); have d10 : v1.cell? ⟨w1.heap.size, 10, none⟩ = some (.int .u64 (c.cn 0)) := R3.cell (i := 10) (by decide); have d11 : v1.cell? ⟨w1.heap.size, 11, none⟩ = some (.int .u64 (c.cn 1)) := R3.cell (i := 11) (by decide); have d12 : v1.cell? ⟨w1.heap.size, 12, none⟩ = some (.int .u64 (c.cn 2)) := R3.cell (i := 12) (by decide); have d13 : v1.cell? ⟨w1.heap.size, 13, none⟩ = some (.int .u64 (c.cn 3)) := R3.cell (i := 13) (by decide); clear R3))
      go_ret
      exact ⟨Tells.no NO.out, (K.out _ (HB2.out.trans (HV1.out.mono HB2.out.size))).1⟩
  · have qP2 : (c.ph == 0) = false := by simp [qP]
    have NO := hide (show ¬ PS from fun h => qP (SD2.out.1 h).1)
    go_wp2_with fail
    go_ret
    exact ⟨Tells.no NO.out, (K.out _ HB2.out).1⟩
end Vw
end Go.Proofs.YtecjegjnnahddaaGreat
