/-
  Lemmas: VwE.
-/
import Derived.Test.YtecjegjnnahddaaGreatTp08
/-
  View: the package's look: a memory as it is seen.
-/
namespace Go.Proofs.YtecjegjnnahddaaGreat
open Go.RowKit
set_option linter.unusedVariables false
set_option linter.unusedSimpArgs false
set_option linter.unnecessarySimpa false
set_option maxRecDepth 20000
namespace Vw
open Shape

/-- The cells of a view under way. -/
def vc (p c r : Int) (a rt wk ob fr gr qu : Value) (c0 c1 c2 c3 : Int) : List Value := [.int .i64 p, .int .i64 c, .int .u64 r, a, rt, wk, ob, fr, gr, qu, .int .u64 c0, .int .u64 c1, .int .u64 c2, .int .u64 c3]

set_option maxHeartbeats 4000000 in
theorem look_ok {o s h r k b off z cap : Nat} {s5 : Int} {B : Nat} {f : Nat → Int} (H : (⟨o, s, h, r, k⟩ : Sh).Ok) (hz : size ⟨o, s, h, r, k⟩ = z) (hc : z ≤ cap) {w : World} (hS : Sees w B (some ⟨b, off, none⟩) z f) (hB : B ≤ w.heap.size) (hf : ∀ i, i < z → 0 ≤ f i ∧ f i < 18446744073709551616) :
    Calls Tryz.prog 24 #[.agg #[.int .i64 (o : Int), .int .i64 (s : Int), .int .i64 (h : Int), .int .i64 (r : Int), .int .i64 (k : Int), .int .i64 s5, .slice (some ⟨b, off, none⟩) z cap]] w fun e w' => (∃ a, e = .returned (vl (cv ⟨o, s, h, r, k⟩ f) a) ∧ Hid (Owns w' w.heap.size (cv ⟨o, s, h, r, k⟩ f) a)) ∧ Below w.heap.size w w' := by
  obtain ⟨W0, hW0, B0, K⟩ := mbox w o s h r k b off z cap s5
  have HB := hide B0
  have HS := hide (fun (w' : World) (hb : Below w.heap.size w w') (i : Nat) (hi : i < z) => show w'.cell? ⟨b, off + i, none⟩ = some (.int .u64 (f i)) by
    obtain ⟨b1, o1, e1, hl, hc⟩ := hS i hi
    cases e1
    exact (hb.cell (p := ⟨b, off + i, none⟩) (by show b < w.heap.size; omega)).trans hc)
  have HSS := hide hS
  have HF := hide hf
  have z8 : 8 ≤ z := by rw [← hz]; have := lay_out ⟨o, s, h, r, k⟩; simp only at this ⊢; omega
  have f0 := hf 0 (by omega)
  have PA := hide (fun w1 => parts_word (f 0) f0.1 f0.2 w1)
  simp only [numB] at PA
  have hbl : b < w.heap.size := by obtain ⟨b1, o1, e1, hl, hc⟩ := hS 0 (by omega); cases e1; omega
  have i0 : (0 : Int) < (z : Int) := by omega
  have l0 : w.heap.size < W0.heap.size := (K.out W0 (Below.refl _ _)).2.1
  clear B0 hS hf
  go_enter Tryz.func24, Tryz.ntmps24
  go_upto_region 2 with (fail)
  obtain ⟨W2, hW2⟩ : ∃ W2, (W0.alloc (.cells #[.int .i64 0, .int .i64 0, .int .u64 0, .slice none 0 0, .slice none 0 0, .slice none 0 0, .slice none 0 0, .slice none 0 0, .slice none 0 0, .slice none 0 0, .int .u64 0, .int .u64 0, .int .u64 0, .int .u64 0] 31)).alloc (.cells #[.int .i64 0, .int .i64 0, .int .u64 0, .slice none 0 0, .slice none 0 0, .slice none 0 0, .slice none 0 0, .slice none 0 0, .slice none 0 0, .slice none 0 0, .int .u64 0, .int .u64 0, .int .u64 0, .int .u64 0] 31) = W2 := ⟨_, rfl⟩
  have B2 : Below W0.heap.size W0 W2 := by rw [← hW2]; exact ((Below.refl _ W0).alloc (Nat.le_refl _) _).alloc (by simp) _
  have HB2 := hide B2
  have HRA := hide (show W2.rowIs W0.heap.size 31 14 (lrow [.int .i64 0, .int .i64 0, .int .u64 0, .slice none 0 0, .slice none 0 0, .slice none 0 0, .slice none 0 0, .slice none 0 0, .slice none 0 0, .slice none 0 0, .int .u64 0, .int .u64 0, .int .u64 0, .int .u64 0]) by rw [← hW2]; exact (rowL_alloc W0 [.int .i64 0, .int .i64 0, .int .u64 0, .slice none 0 0, .slice none 0 0, .slice none 0 0, .slice none 0 0, .slice none 0 0, .slice none 0 0, .slice none 0 0, .int .u64 0, .int .u64 0, .int .u64 0, .int .u64 0] _ rfl).alloc _)
  have HRV := hide (show W2.rowIs (W0.heap.size + 1) 31 14 (lrow [.int .i64 0, .int .i64 0, .int .u64 0, .slice none 0 0, .slice none 0 0, .slice none 0 0, .slice none 0 0, .slice none 0 0, .slice none 0 0, .slice none 0 0, .int .u64 0, .int .u64 0, .int .u64 0, .int .u64 0]) by rw [← hW2]; have := rowL_alloc (W0.alloc (.cells #[.int .i64 0, .int .i64 0, .int .u64 0, .slice none 0 0, .slice none 0 0, .slice none 0 0, .slice none 0 0, .slice none 0 0, .slice none 0 0, .slice none 0 0, .int .u64 0, .int .u64 0, .int .u64 0, .int .u64 0] 31)) [.int .i64 0, .int .i64 0, .int .u64 0, .slice none 0 0, .slice none 0 0, .slice none 0 0, .slice none 0 0, .slice none 0 0, .slice none 0 0, .slice none 0 0, .int .u64 0, .int .u64 0, .int .u64 0, .int .u64 0] 31 (n := 14) rfl; simpa using this)
  have sz2 : W2.heap.size = W0.heap.size + 2 := by rw [← hW2]; simp
  simp only [hW2]
  clear hW2 B2
  obtain ⟨bw2, l2, x0, x1, x2, x3, x4, x5, x6⟩ := K.out W2 HB2.out
  have c0 : W2.cell? ⟨b, off, none⟩ = some (.int .u64 (f 0)) := by simpa using HS.out W2 bw2 0 (by omega)
  clear bw2
  have v0 := HRV.out.cell (i := 0) (by decide)
  have v1 := HRV.out.cell (i := 1) (by decide)
  have v2 := HRV.out.cell (i := 2) (by decide)
  have vf : ∀ i, W2.frozen? ⟨W0.heap.size + 1, i, none⟩ = false := fun i => HRV.out.frozen i
  simp only [lrow] at v0 v1 v2
  go_upto_region 3 with (go_at_call 59; refine (PA.out _).mono ?_; rintro e w1 ⟨rfl, hq⟩; obtain rfl := hq.symm)
  obtain ⟨W3, hW3⟩ : ∃ W3, (((W2.setCell ⟨W0.heap.size + 1, 0, none⟩ (.int .i64 (f 0 % 8))).setCell ⟨W0.heap.size + 1, 1, none⟩ (.int .i64 (f 0 / 8 % 2))).setCell ⟨W0.heap.size + 1, 2, none⟩ (.int .u64 (f 0 / 256))) = W3 := ⟨_, rfl⟩
  obtain ⟨vb, hvb⟩ : ∃ vb, W0.heap.size + 1 = vb := ⟨_, rfl⟩
  have RV3 := hide (show W3.rowIs vb 31 14 (lrow [.int .i64 (f 0 % 8), .int .i64 (f 0 / 8 % 2), .int .u64 (f 0 / 256), .slice none 0 0, .slice none 0 0, .slice none 0 0, .slice none 0 0, .slice none 0 0, .slice none 0 0, .slice none 0 0, .int .u64 0, .int .u64 0, .int .u64 0, .int .u64 0]) by
    rw [← hW3, ← hvb]
    exact row_set (row_set (row_set HRV.out rfl 0 _) rfl 1 _) rfl 2 _)
  have HB3 := hide (show Below W0.heap.size W0 W3 by rw [← hW3]; exact ((HB2.out.setCell (by simp only; omega) _).setCell (by simp only; omega) _).setCell (by simp only; omega) _)
  have RA3 := hide (show W3.rowIs W0.heap.size 31 14 (lrow [.int .i64 0, .int .i64 0, .int .u64 0, .slice none 0 0, .slice none 0 0, .slice none 0 0, .slice none 0 0, .slice none 0 0, .slice none 0 0, .slice none 0 0, .int .u64 0, .int .u64 0, .int .u64 0, .int .u64 0]) by
    rw [← hW3]
    exact HRA.out.of_block ((Below.heap_setCell _ _ _ _ (by simp only; omega)).trans ((Below.heap_setCell _ _ _ _ (by simp only; omega)).trans (Below.heap_setCell _ _ _ _ (by simp only; omega)))))
  have sz3 : W3.heap.size = vb + 1 := by rw [← hW3, ← hvb]; simp [sz2]
  simp only [hW3]
  simp only [hvb]
  clear hW3 v0 v1 v2 vf c0 HRA HRV HB2 sz2 x0 x1 x2 x3 x4 x5 x6 l2 PA f0 i0
  obtain ⟨bw3, l3, x0, x1, x2, x3, x4, x5, x6⟩ := K.out W3 HB3.out
  have BW3 := hide bw3
  clear bw3
  have HLT : W0.heap.size < vb := by omega
  clear hvb
  have AK := hide (acks_ok (b := b) (off := off) (s5 := s5) H hz hc W3)
  go_upto_region 4 with (first
    | (go_at_call 49; refine AK.out.mono ?_; rintro e w4 ⟨⟨p4, cp4, rfl, hcp4, hp4⟩, hb4⟩; have HB4 := hide hb4; have CV := hide (copied_v (w := w4) (cap := cp4) (part_sees (at' := 8) (n := h) HSS.out (BW3.out.trans (HB4.out.mono BW3.out.size)) hB (by rw [← hz]; have := lay_out ⟨o, s, h, r, k⟩; simp only at this ⊢; omega) hp4) (Nat.le_refl _) (by have := H.h2; simp only at this; omega)); clear hp4 hb4 hcp4)
    | (go_at_call 60; refine CV.out.mono ?_; rintro e w5 ⟨g5, rfl, HO5, hb5⟩; have HB5 := hide (HB4.out.trans (hb5.mono HB4.out.size)); clear hb5; have e3 := (row_on RV3.out HB5.out).cell (i := 3) (by decide); have fz3 := (row_on RV3.out HB5.out).frozen 3))
  obtain ⟨W6, hW6⟩ : ∃ W6, w5.setCell ⟨vb, 3, none⟩ (.slice (some ⟨g5, 0, none⟩) h h) = W6 := ⟨_, rfl⟩
  have RV6 := hide (show W6.rowIs vb 31 14 (lrow [.int .i64 (f 0 % 8), .int .i64 (f 0 / 8 % 2), .int .u64 (f 0 / 256), .slice (some ⟨g5, 0, none⟩) h h, .slice none 0 0, .slice none 0 0, .slice none 0 0, .slice none 0 0, .slice none 0 0, .slice none 0 0, .int .u64 0, .int .u64 0, .int .u64 0, .int .u64 0]) by
    rw [← hW6]
    exact row_set (row_on RV3.out HB5.out) rfl 3 _)
  have RA6 := hide (show W6.rowIs W0.heap.size 31 14 (lrow [.int .i64 0, .int .i64 0, .int .u64 0, .slice none 0 0, .slice none 0 0, .slice none 0 0, .slice none 0 0, .slice none 0 0, .slice none 0 0, .slice none 0 0, .int .u64 0, .int .u64 0, .int .u64 0, .int .u64 0]) by
    rw [← hW6]
    exact (row_on RA3.out HB5.out).of_block (Below.heap_setCell _ _ _ _ (by simp only; omega)))
  have HB6 := hide (show Below W0.heap.size W0 W6 by rw [← hW6]; exact (HB3.out.trans (HB5.out.mono HB3.out.size)).setCell (by simp only; omega) _)
  have sz6 : vb + 1 ≤ W6.heap.size := by rw [← hW6]; have := HB5.out.size; simp; omega
  have OA6 := hide (show W6.ownsRow (vb + 1) 24 1 (.slice (some ⟨g5, 0, none⟩) h h) h (wcs h (fun i => f (8 + i))) by
    have := HB4.out.size
    rw [← hW6]
    exact owns_low (owns_set HO5.out (by simp only; omega) _) (by omega))
  simp only [hW6]
  clear hW6 e3 fz3 x0 x1 x2 x3 x4 x5 x6 RV3 RA3 HO5 HB5 CV AK
  obtain ⟨-, -, -, -, x2, -, -, -, -⟩ := K.out W6 HB6.out
  obtain ⟨iS, hiS, hzS, hsS, hyS⟩ := infoS
  go_wp2_with fail
  go_loopw [25] (fun i wr => ∃ (q : Nat) (rv : Value) (rs : List Value), q ≤ h ∧ i = .int .i64 (q : Int) ∧ Hid (wr.rowIs vb 31 14 (lrow [.int .i64 (f 0 % 8), .int .i64 (f 0 / 8 % 2), .int .u64 (f 0 / 256), .slice (some ⟨g5, 0, none⟩) h h, rv, .slice none 0 0, .slice none 0 0, .slice none 0 0, .slice none 0 0, .slice none 0 0, .int .u64 0, .int .u64 0, .int .u64 0, .int .u64 0])) ∧ Hid (wr.ownsRow (vb + 1) 25 1 rv q rs) ∧ Hid (∀ j, j < q → ∃ ai ci, rs[j]? = some (.slice ai r ci) ∧ wr.ownsRow (vb + 1) 24 1 (.slice ai r ci) r (wcs r (fun p => f (bR ⟨o, s, h, r, k⟩ + j * r + p)))) ∧ Hid (wr.ownsRow (vb + 1) 24 1 (.slice (some ⟨g5, 0, none⟩) h h) h (wcs h (fun i => f (8 + i)))) ∧ Hid (Below vb W6 wr)) (fun i _ => h - (intOf i).toNat)
  case atStart => exact ⟨0, .slice none 0 0, [], Nat.zero_le _, rfl, RV6.out, World.ownsRow_nil _ _ _ _, fun j hj => absurd hj (by omega), OA6.out, Below.refl _ _⟩
  case round =>
    obtain ⟨q, rv, rs, hq, rfl, RVr, ORr, OIr, OAr, HWr⟩ := hrel
    have HBr := hide (HB6.out.trans (HWr.out.mono (show W0.heap.size ≤ vb by omega)))
    have szr : vb + 1 ≤ wr.heap.size := by have := HWr.out.size; omega
    by_cases hlt : q < h
    · have hlt' : (q : Int) < (h : Int) := by omega
      have RO := hide (fun w1 => roots_ok (b := b) (off := off) (s5 := s5) H hz hc hlt w1)
      have hfit : bR ⟨o, s, h, r, k⟩ + q * r + r ≤ z := by rw [← hz]; have := (at_root H (show q < (⟨o, s, h, r, k⟩ : Sh).h from hlt)).1; have := lay_out ⟨o, s, h, r, k⟩; simp only at *; omega
      obtain ⟨a1, ha1⟩ : ∃ a1, bR ⟨o, s, h, r, k⟩ + q * r = a1 := ⟨_, rfl⟩
      have hr4 : r ≤ 8 := H.r2
      have hh7 : h ≤ 7 := H.h2
      rw [ha1] at RO hfit
      have HA1 := hide ha1
      clear ha1
      go_upto_region 7 with (fail)
      refine LtH.region2 (ks := [(0, 28), (1, 29), (2, 30), (3, 31), (8, 36)]) (vals := fun iv => match iv with | 0 => .pointer (some ⟨vb, 4, none⟩) | 1 => rv | 2 => .agg #[.int .i64 (o : Int), .int .i64 (s : Int), .int .i64 (h : Int), .int .i64 (r : Int), .int .i64 (k : Int), .int .i64 s5, .slice (some ⟨b, off, none⟩) z cap] | 3 => .int .i64 (q : Int) | 8 => .pointer (some ⟨vb, 4, none⟩) | _ => undef) (xs := [32, 33, 34, 35]) (WI := LtC.WI [4, 5, 6, 7, 9] 7 1 (AS wr (vb + 1) vb 4 25 1 rv q rs 32 33 34 35 (fun v => ∃ p cp, v = .slice (some p) r cp ∧ (0 < r → p = ⟨b, off + a1, none⟩)) (fun w2 v => ∃ g, v = .slice (some ⟨g, 0, none⟩) r r ∧ w2.ownsRow wr.heap.size 24 1 v r (wcs r (fun i => f (a1 + i)))))) (by kernel_rfl) ?Agd ?Abk rfl ?Add ?Axx ?Alc ?Ast ?Ado ?Afi
      case Agd =>
        intro iq oq ho
        have hiq : iq < 10 := by have := (Array.getElem?_eq_some_iff.1 ho).1; simpa using this
        match iq, hiq with
        | 0, _ | 1, _ | 2, _ | 3, _ | 4, _ | 5, _ | 6, _ | 7, _ | 8, _ | 9, _ => injection ho with ho; subst ho; rfl
      case Abk =>
        intro iq oq ho
        have hiq : iq < 10 := by have := (Array.getElem?_eq_some_iff.1 ho).1; simpa using this
        match iq, hiq with
        | 0, _ | 1, _ | 2, _ | 3, _ | 4, _ | 5, _ | 6, _ | 7, _ | 8, _ | 9, _ => injection ho with ho; subst ho; simp [Region.binds]
      case Add =>
        intro kq hk
        have hk2 : kq < 84 := by
          simp [Lt.D] at hk
          omega
        exact hk2
      case Axx =>
        intro kq hk
        have hk2 : kq < 84 := by
          simp at hk
          omega
        exact hk2
      case Alc =>
        rintro L s1 s2 w1 hx ⟨⟨n1, h1, h2, h3⟩, h4⟩
        exact ⟨⟨n1, h1, h2, AS.local (hx 32 rfl) (hx 33 rfl) (hx 34 rfl) (hx 35 rfl) h3⟩, h4⟩
      case Ast => exact LtC.WI.start ⟨rfl, rfl, rfl, Nat.le_refl _, fun _ _ => rfl⟩
      case Ado =>
        intro iq oq ho
        have hiq : iq < 10 := by have := (Array.getElem?_eq_some_iff.1 ho).1; simpa using this
        match iq, hiq with
        | 0, _ => injection ho with ho; subst ho; exact LtC.read rfl rfl rfl (fun L a w' hI hL hq => Lt.ex_field rfl (hI.fix 3 (Lt.notD rfl) rfl) (by simp [go_sem]))
        | 1, _ => injection ho with ho; subst ho; exact LtC.read rfl rfl rfl (fun L a w' hI hL hq => Lt.ex_load rfl (hI.pure 0 _ _ rfl (hq ⟨0, .data⟩ (by simp) rfl)) (by simp [go_sem]) (by obtain ⟨n1, hn1, hA1⟩ := hI.world.early (m := 3) rfl hL; exact (row_on RVr.out (AS.early hn1 hA1)).cell (i := 4) (by decide)))
        | 2, _ => injection ho with ho; subst ho; exact LtC.read rfl rfl rfl (fun L a w' hI hL hq => Lt.ex_load_row rfl (hI.fix 1 (Lt.notD rfl) rfl) (by obtain ⟨n1, hn1⟩ := hI.world.any; obtain ⟨-, -, y0, y1, y2, y3, y4, y5, y6⟩ := K.out w' (HBr.out.trans ((AS.low (by omega) szr ORr.out hn1).mono (by omega))); exact rng7 y0 y1 y2 y3 y4 y5 y6) (by kernel_rfl) (by kernel_rfl))
        | 3, _ => injection ho with ho; subst ho; exact LtC.read rfl rfl rfl (fun L a w' hI hL hq => Lt.ex_move rfl (hI.fix 4 (Lt.notD rfl) rfl))
        | 4, _ => injection ho with ho; subst ho; exact LtC.call (m := 0) (args := fun _ => #[.agg #[.int .i64 (o : Int), .int .i64 (s : Int), .int .i64 (h : Int), .int .i64 (r : Int), .int .i64 (k : Int), .int .i64 s5, .slice (some ⟨b, off, none⟩) z cap], .int .i64 (q : Int)]) (by decide) rfl rfl rfl rfl (fun L _ e => absurd e (by decide)) (fun L hq m1 j1 e1 _ => absurd e1 (by omega)) (fun L a w' hI hq hS => Lt.call2 rfl (hI.pure 2 _ _ rfl (hq ⟨2, .data⟩ (by simp) rfl)) (hI.pure 3 _ _ rfl (hq ⟨3, .data⟩ (by simp) rfl)) rfl (by simp [go_sem])) (fun s1 w1 hS => (RO.out w1).mono (by rintro e w2 ⟨⟨p, cp, rfl, hcp, hp⟩, hb2⟩; exact ⟨_, rfl, Below.trans hS (hb2.mono hS.size), ⟨p, cp, by simp, hp⟩⟩))
        | 5, _ => injection ho with ho; subst ho; exact LtC.call (m := 1) (args := fun s1 => #[s1 32]) (by decide) rfl rfl rfl rfl (fun L _ e => absurd e (by decide)) (fun L hq m1 j1 e1 hj => by (cases (show m1 = 0 from (by omega))); cases hj; exact hq ⟨4, .data⟩ (by simp) rfl) (fun L a w' hI hq hS => Lt.call1 rfl rfl rfl (by simp [go_sem])) (fun s1 w1 hS => by obtain ⟨hb1, p, cp, e1, hp⟩ := hS; simp only [e1]; refine (copied_v (w := w1) (cap := cp) (part_sees (at' := a1) (n := r) HSS.out ((K.out wr HBr.out).1.trans (hb1.mono (K.out wr HBr.out).1.size)) hB hfit hp) (Nat.le_refl _) (by omega)).mono ?_; rintro e w2 ⟨g, rfl, HO2, hb2⟩; exact ⟨_, rfl, hb1.trans (hb2.mono hb1.size), ⟨g, by simp, by simpa using owns_low HO2.out hb1.size⟩⟩)
        | 6, _ => injection ho with ho; subst ho; exact LtC.link (m := 2) (by decide) rfl rfl rfl rfl (fun L _ e => absurd e (by decide)) (fun L hq m1 j1 e1 hj => by (cases (show m1 = 1 from (by omega))); cases hj; exact hq ⟨5, .data⟩ (by simp) rfl) (fun L a w' Kq hI hq hS hk => by obtain ⟨hb1, g, e1, HO1⟩ := hS; refine Lt.wp_value (ex_bsS rfl e1) (hk _ _ ?_); refine ⟨hb1.alloc hb1.size _, ⟨g, by simpa using e1, by simpa using HO1.alloc _⟩, w'.heap.size, by simp, ?_⟩; intro j u hj; simp only [show (33 : Nat) = 34 ↔ False by decide, if_false] at hj; rw [show a.eval (.tmp 33) = _ from e1] at hj; exact cell_one_new w' _ _ j u (by simpa [Value.cells] using hj))
        | 7, _ => injection ho with ho; subst ho; exact LtC.link (m := 3) (by decide) rfl rfl rfl rfl (fun L hq e => hq ⟨1, .data⟩ (by simp) rfl) (fun L hq m1 j1 e1 hj => by (cases (show m1 = 2 from (by omega))); cases hj; exact hq ⟨6, .data⟩ (by simp) rfl) (fun L a w' Kq hI hq hS hk => by obtain ⟨hb1, ⟨g, e1, HO1⟩, g6, e6, hc6⟩ := hS; exact wp_append (.tmp 29) (.tmp 34) 26 rfl (vb + 1) 25 iS (.slice none 0 0) 1 24 Tryz.underlying26 hiS hzS hsS hyS rfl (by decide) rv q rs (hI.pure 1 _ _ rfl (hq ⟨1, .data⟩ (by simp) rfl)) (owns_on ORr.out hb1) ⟨g6, 0, none⟩ 1 1 (a.eval (.tmp 33)).cells.toList e6 (by rw [show a.eval (.tmp 33) = _ from e1]; rfl) (fun j u hj => hc6 j u hj) (by rw [show a.eval (.tmp 33) = _ from e1]; simp [Value.cells, Value.oneCell']) (by unfold maxLen; omega) (by omega) (by have := hb1.size; omega) (fun v2 w2 hown hgr => hk v2 w2 ⟨w', hb1, ⟨g, by simpa using e1, by simpa using HO1⟩, hgr, by simpa using hown⟩))
        | 8, _ => injection ho with ho; subst ho; exact LtC.read rfl rfl rfl (fun L a w' hI hL hq => Lt.ex_field rfl (hI.fix 3 (Lt.notD rfl) rfl) (by simp [go_sem]))
        | 9, _ => injection ho with ho; subst ho; exact LtC.store (m := 4) (by decide) rfl rfl rfl (fun L _ e => absurd e (by decide)) (fun L hq m1 j1 e1 hj => by (cases (show m1 = 3 from (by omega))); cases hj; exact hq ⟨7, .data⟩ (by simp) rfl) (fun L a w' Kq hI hq hS hk => by obtain ⟨w6, hb6, hB6, hgr, hown⟩ := hS; obtain ⟨ao, cp, e4⟩ := own_slice hown; have R6 := (row_on RVr.out hb6).of_block (hgr.block vb (by have := hb6.size; omega) (fun e => by have := (ORr.out.lt vb e.symm).1; omega)); exact wp_storeS rfl rfl (hI.pure 8 _ _ rfl (hq ⟨8, .data⟩ (by simp) rfl)) e4 (by kernel_rfl) (R6.cell (i := 4) (by decide)) (R6.frozen 4) (hk _ _ ⟨w6, w', hb6, hB6, hgr, hown, by rw [show (fun k => a.eval (.tmp k)) 35 = _ from e4]⟩))
      case Afi =>
        intro L a' w' hI hall
        obtain ⟨h4, ⟨w6, hb6, ⟨g, eg, HOg⟩, hk6⟩, hkr, hrow, hlow⟩ := AS.end (by omega) szr ORr.out (hI.world.done (fun i hi => hall i (by simp at hi ⊢; omega)))
        have hfr := LtH.frame hI [28, 29, 30, 31, 32, 33, 34, 35, 36] rfl rfl (fun x hx => by simp at hx ⊢; omega)
        have e28 : a'.eval (.tmp 28) = .pointer (some ⟨vb, 4, none⟩) := hI.pure 0 _ _ rfl (hall 0 (by decide))
        have e29 : a'.eval (.tmp 29) = rv := hI.pure 1 _ _ rfl (hall 1 (by decide))
        have e30 : a'.eval (.tmp 30) = .agg #[.int .i64 (o : Int), .int .i64 (s : Int), .int .i64 (h : Int), .int .i64 (r : Int), .int .i64 (k : Int), .int .i64 s5, .slice (some ⟨b, off, none⟩) z cap] := hI.pure 2 _ _ rfl (hall 2 (by decide))
        have e31 : a'.eval (.tmp 31) = .int .i64 (q : Int) := hI.pure 3 _ _ rfl (hall 3 (by decide))
        have e36 : a'.eval (.tmp 36) = .pointer (some ⟨vb, 4, none⟩) := hI.pure 8 _ _ rfl (hall 8 (by decide))
        obtain ⟨t32, e32⟩ : ∃ t, a'.eval (.tmp 32) = t := ⟨_, rfl⟩
        obtain ⟨t33, e33⟩ : ∃ t, a'.eval (.tmp 33) = t := ⟨_, rfl⟩
        obtain ⟨t34, e34⟩ : ∃ t, a'.eval (.tmp 34) = t := ⟨_, rfl⟩
        obtain ⟨t35, e35⟩ : ∃ t, a'.eval (.tmp 35) = t := ⟨_, rfl⟩
        simp only [e33, e35] at h4 eg HOg hrow
        have H4 := hide h4
        have HK6 := hide hk6
        have HKR := hide hkr
        have HRW := hide (hrow _ _ _ RVr.out rfl)
        have HLW := hide hlow
        have HGG := hide HOg
        have EG := hide eg
        rw [hfr]
        simp only [LtH.lay, List.foldl, e28, e29, e30, e31, e32, e33, e34, e35, e36]
        clear hfr hI hall e28 e29 e30 e31 e32 e33 e34 e35 e36 h4 hk6 hkr hrow hlow HOg eg
        go_wp2_with fail
        go_roundw
        case rel =>
          refine ⟨q + 1, t35, rs ++ [t33], by omega, by go_num, HRW.out, ?_, ?_, HKR.out _ _ _ _ _ (by decide) OAr.out, HWr.out.trans (HLW.out)⟩
          · have h5 := H4.out
            rw [EG.out] at h5 ⊢
            exact h5
          · intro j hj
            have hrl : rs.length = q := by have := ORr.out.1; omega
            by_cases hjq : j < q
            · obtain ⟨ai, ci, h1, h2⟩ := OIr.out j hjq
              exact ⟨ai, ci, by rw [List.getElem?_append_left (by omega)]; exact h1, HKR.out _ _ _ _ _ (by decide) h2⟩
            · have hjq2 : j = q := by omega
              subst hjq2
              refine ⟨some ⟨g, 0, none⟩, r, by rw [List.getElem?_append_right (by omega), hrl]; simp [EG.out], HK6.out _ _ _ _ _ (by decide) ?_⟩
              have h6 := owns_low HGG.out (show vb + 1 ≤ wr.heap.size from szr)
              rw [EG.out] at h6
              rw [HA1.out]
              exact h6
        case measure => simp [intOf]; omega
    · have hlt' : ¬ (q : Int) < (h : Int) := by omega
      have hqh : h = q := by omega
      subst hqh
      have ORT := hide (show ∃ rs, wr.ownsRow (vb + 1) 25 1 rv h rs ∧ ∀ j, j < h → ∃ ai ci, rs[j]? = some (.slice ai r ci) ∧ wr.ownsRow (vb + 1) 24 1 (.slice ai r ci) r (wcs r (fun p => f (bR ⟨o, s, h, r, k⟩ + j * r + p))) from ⟨rs, ORr.out, OIr.out⟩)
      have WKO := hide (weaks_ok (b := b) (off := off) (s5 := s5) H hz hc wr)
      obtain ⟨bwr, lwr, y0, y1, y2, y3, y4, y5, y6⟩ := K.out wr HBr.out
      have BWR := hide bwr
      have hk16 : k ≤ 16 := H.k2
      have hfw : bK ⟨o, s, h, r, k⟩ + k ≤ z := by rw [← hz]; have := lay_out ⟨o, s, h, r, k⟩; simp only at this ⊢; omega
      clear bwr x2 OA6 RV6 hq
      go_upto_region 10 with (first
        | (go_at_call 51; refine WKO.out.mono ?_; rintro e w7 ⟨⟨p7, cp7, rfl, hcp7, hp7⟩, hb7⟩; have HB7 := hide hb7; have CV := hide (copied_v (w := w7) (cap := cp7) (part_sees (at' := bK ⟨o, s, h, r, k⟩) (n := k) HSS.out (BWR.out.trans (HB7.out.mono BWR.out.size)) hB hfw hp7) (Nat.le_refl _) (by omega)); clear hp7 hb7 hcp7)
        | (go_at_call 60; refine CV.out.mono ?_; rintro e w8 ⟨g8, rfl, HO8, hb8⟩; have HB8 := hide (HB7.out.trans (hb8.mono HB7.out.size)); clear hb8; have e5 := (row_on RVr.out HB8.out).cell (i := 5) (by decide); have fz5 := (row_on RVr.out HB8.out).frozen 5))
      obtain ⟨W9, hW9⟩ : ∃ W9, w8.setCell ⟨vb, 5, none⟩ (.slice (some ⟨g8, 0, none⟩) k k) = W9 := ⟨_, rfl⟩
      have RV9 := hide (show W9.rowIs vb 31 14 (lrow [.int .i64 (f 0 % 8), .int .i64 (f 0 / 8 % 2), .int .u64 (f 0 / 256), .slice (some ⟨g5, 0, none⟩) h h, rv, .slice (some ⟨g8, 0, none⟩) k k, .slice none 0 0, .slice none 0 0, .slice none 0 0, .slice none 0 0, .int .u64 0, .int .u64 0, .int .u64 0, .int .u64 0]) by
        rw [← hW9]
        exact row_set (row_on RVr.out HB8.out) rfl 5 _)
      have RA9 := hide (show W9.rowIs W0.heap.size 31 14 (lrow [.int .i64 0, .int .i64 0, .int .u64 0, .slice none 0 0, .slice none 0 0, .slice none 0 0, .slice none 0 0, .slice none 0 0, .slice none 0 0, .slice none 0 0, .int .u64 0, .int .u64 0, .int .u64 0, .int .u64 0]) by
        rw [← hW9]
        exact (row_on (RA6.out.of_block (HWr.out.block _ (by omega))) HB8.out).of_block (Below.heap_setCell _ _ _ _ (by simp only; omega)))
      have HB9 := hide (show Below W0.heap.size W0 W9 by rw [← hW9]; exact (HBr.out.trans (HB8.out.mono HBr.out.size)).setCell (by simp only; omega) _)
      have sz9 : vb + 1 ≤ W9.heap.size := by rw [← hW9]; have := HB8.out.size; simp; omega
      have OWK9 := hide (show W9.ownsRow (vb + 1) 24 1 (.slice (some ⟨g8, 0, none⟩) k k) k (wcs k (fun i => f (bK ⟨o, s, h, r, k⟩ + i))) by
        have := HB7.out.size
        rw [← hW9]
        exact owns_low (owns_set HO8.out (by simp only; omega) _) (by omega))
      have OA9 := hide (show W9.ownsRow (vb + 1) 24 1 (.slice (some ⟨g5, 0, none⟩) h h) h (wcs h (fun i => f (8 + i))) by
        rw [← hW9]
        exact owns_set (owns_on OAr.out HB8.out) (by simp only; omega) _)
      have ORT9 := hide (show ∃ rs, W9.ownsRow (vb + 1) 25 1 rv h rs ∧ ∀ j, j < h → ∃ ai ci, rs[j]? = some (.slice ai r ci) ∧ W9.ownsRow (vb + 1) 24 1 (.slice ai r ci) r (wcs r (fun p => f (bR ⟨o, s, h, r, k⟩ + j * r + p))) by
        obtain ⟨rs, h1, h2⟩ := ORT.out
        rw [← hW9]
        exact ⟨rs, owns_set (owns_on h1 HB8.out) (by simp only; omega) _, fun j hj => by obtain ⟨ai, ci, h3, h4⟩ := h2 j hj; exact ⟨ai, ci, h3, owns_set (owns_on h4 HB8.out) (by simp only; omega) _⟩⟩)
      simp only [hW9]
      clear hW9 e5 fz5 y0 y1 y2 y3 y4 y5 y6 RVr ORr OIr OAr HO8 HB8 CV WKO ORT RA6
      obtain ⟨iO, zO, hiO, hzO, hsO, hyO, hcO⟩ := infoO
      have ho64 : o ≤ 64 := H.o2
      have hs4 : s ≤ 4 := H.s2
      obtain ⟨-, -, x0, -, -, -, -, -, -⟩ := K.out W9 HB9.out
      go_wp2_with fail
      go_loopw [5] (fun i wr => ∃ (m : Nat) (ov : Value), m ≤ o ∧ i = .int .i64 ((m : Int) + 1) ∧ Hid (wr.rowIs vb 31 14 (lrow [.int .i64 (f 0 % 8), .int .i64 (f 0 / 8 % 2), .int .u64 (f 0 / 256), .slice (some ⟨g5, 0, none⟩) h h, rv, .slice (some ⟨g8, 0, none⟩) k k, ov, .slice none 0 0, .slice none 0 0, .slice none 0 0, .int .u64 0, .int .u64 0, .int .u64 0, .int .u64 0])) ∧ Hid (∃ os, wr.ownsRow (vb + 1) 46 9 ov m os ∧ ∀ j, j < m → ∃ ai ci, (∀ q, q < 9 → os[j * 9 + q]? = some ((obAt ⟨o, s, h, r, k⟩ f j).cell (.slice ai s ci) q)) ∧ wr.ownsRow (vb + 1) 24 1 (.slice ai s ci) s (wcs s (obAt ⟨o, s, h, r, k⟩ f j).sl)) ∧ Hid (wr.ownsRow (vb + 1) 24 1 (.slice (some ⟨g8, 0, none⟩) k k) k (wcs k (fun i => f (bK ⟨o, s, h, r, k⟩ + i)))) ∧ Hid (wr.ownsRow (vb + 1) 24 1 (.slice (some ⟨g5, 0, none⟩) h h) h (wcs h (fun i => f (8 + i)))) ∧ Hid (∃ rs, wr.ownsRow (vb + 1) 25 1 rv h rs ∧ ∀ j, j < h → ∃ ai ci, rs[j]? = some (.slice ai r ci) ∧ wr.ownsRow (vb + 1) 24 1 (.slice ai r ci) r (wcs r (fun p => f (bR ⟨o, s, h, r, k⟩ + j * r + p)))) ∧ Hid (Below vb W9 wr)) (fun i _ => o + 1 - (intOf i).toNat)
      case atStart => exact ⟨0, .slice none 0 0, Nat.zero_le _, rfl, RV9.out, ⟨[], World.ownsRow_nil _ _ _ _, fun j hj => absurd hj (by omega)⟩, OWK9.out, OA9.out, ORT9.out, Below.refl _ _⟩
      case round =>
        obtain ⟨m, ov, hm, rfl, RVs, OBs, OWs, OAs, ORs, HWs⟩ := hrel
        obtain ⟨os, OB1, OB2⟩ := OBs.out
        have OB1 := hide OB1
        have OB2 := hide OB2
        have HBs := hide (HB9.out.trans (HWs.out.mono (show W0.heap.size ≤ vb by omega)))
        have szs : vb + 1 ≤ wr.heap.size := by have := HWs.out.size; omega
        by_cases hlt : m < o
        · have hlt2 : (m : Int) + 1 ≤ (o : Int) := by omega
          obtain ⟨-, -, u0, -, -, -, -, -, -⟩ := K.out wr HBs.out
          have OO := hide (fun w1 => object_ok (b := b) (off := off) (s5 := s5) H hz hc hlt w1)
          have hfit := (at_obj H (show m < (⟨o, s, h, r, k⟩ : Sh).o from hlt)).1
          rw [hz] at hfit
          simp only [ow] at hfit
          obtain ⟨a1, ha1⟩ : ∃ a1, pO ⟨o, s, h, r, k⟩ m = a1 := ⟨_, rfl⟩
          rw [ha1] at OO hfit
          have HA1 := hide ha1
          have fa := HF.out a1 (by omega)
          clear ha1
          go_upto_region 13 with (fail)
          refine LtH.region2 (ks := [(0, 49), (1, 50), (2, 51), (3, 52), (5, 54), (6, 55), (10, 59)]) (vals := fun iv => match iv with | 0 => .pointer (some ⟨vb, 6, none⟩) | 1 => ov | 2 => .agg #[.int .i64 (o : Int), .int .i64 (s : Int), .int .i64 (h : Int), .int .i64 (r : Int), .int .i64 (k : Int), .int .i64 s5, .slice (some ⟨b, off, none⟩) z cap] | 3 => .int .i64 ((m : Int) + 1) | 5 => .pointer (some ⟨vb, 1, none⟩) | 6 => .int .i64 (f 0 / 8 % 2) | 10 => .pointer (some ⟨vb, 6, none⟩) | _ => undef) (xs := [53, 56, 57, 58]) (WI := LtC.WI [4, 7, 8, 9, 11] 9 1 (AS wr (vb + 1) vb 6 46 9 ov m os 53 56 57 58 (fun v => ∃ p cp, v = .slice (some p) (3 + s) cp ∧ 3 + s ≤ cp ∧ p = ⟨b, off + a1, none⟩) (fun w2 v => ∃ ai ci, v = .agg #[.bool (hasB (f a1) 1), .bool (numB (f a1) 2 == f 0 / 8 % 2), .bool (hasB (f a1) 4), .bool (hasB (f a1) 8), .int .i64 (f a1 / 256 % 256), .int .u64 (f a1 / 4294967296), .int .u64 (f (a1 + 1)), .int .u64 (f (a1 + 2)), .slice ai s ci] ∧ w2.ownsRow wr.heap.size 24 1 (.slice ai s ci) s (wcs s (fun i => f (a1 + (3 + i))))))) (by kernel_rfl) ?Bgd ?Bbk rfl ?Bdd ?Bxx ?Blc ?Bst ?Bdo ?Bfi
          case Bgd =>
            intro iq oq ho
            have hiq : iq < 12 := by have := (Array.getElem?_eq_some_iff.1 ho).1; simpa using this
            match iq, hiq with
            | 0, _ | 1, _ | 2, _ | 3, _ | 4, _ | 5, _ | 6, _ | 7, _ | 8, _ | 9, _ | 10, _ | 11, _ => injection ho with ho; subst ho; rfl
          case Bbk =>
            intro iq oq ho
            have hiq : iq < 12 := by have := (Array.getElem?_eq_some_iff.1 ho).1; simpa using this
            match iq, hiq with
            | 0, _ | 1, _ | 2, _ | 3, _ | 4, _ | 5, _ | 6, _ | 7, _ | 8, _ | 9, _ | 10, _ | 11, _ => injection ho with ho; subst ho; simp [Region.binds]
          case Bdd =>
            intro kq hk
            have hk2 : kq < 84 := by
              simp [Lt.D] at hk
              omega
            exact hk2
          case Bxx =>
            intro kq hk
            have hk2 : kq < 84 := by
              simp at hk
              omega
            exact hk2
          case Blc =>
            rintro L s1 s2 w1 hx ⟨⟨n1, h1, h2, h3⟩, h4⟩
            exact ⟨⟨n1, h1, h2, AS.local (hx 53 rfl) (hx 56 rfl) (hx 57 rfl) (hx 58 rfl) h3⟩, h4⟩
          case Bst => exact LtC.WI.start ⟨rfl, rfl, rfl, Nat.le_refl _, fun _ _ => rfl⟩
          case Bdo =>
            intro iq oq ho
            have hiq : iq < 12 := by have := (Array.getElem?_eq_some_iff.1 ho).1; simpa using this
            match iq, hiq with
            | 0, _ => injection ho with ho; subst ho; exact LtC.read rfl rfl rfl (fun L a w' hI hL hq => Lt.ex_field rfl (hI.fix 3 (Lt.notD rfl) rfl) (by simp [go_sem]))
            | 1, _ => injection ho with ho; subst ho; exact LtC.read rfl rfl rfl (fun L a w' hI hL hq => Lt.ex_load rfl (hI.pure 0 _ _ rfl (hq ⟨0, .data⟩ (by simp) rfl)) (by simp [go_sem]) (by obtain ⟨n1, hn1, hA1⟩ := hI.world.early (m := 3) rfl hL; exact (row_on RVs.out (AS.early hn1 hA1)).cell (i := 6) (by decide)))
            | 2, _ => injection ho with ho; subst ho; exact LtC.read rfl rfl rfl (fun L a w' hI hL hq => Lt.ex_load_row rfl (hI.fix 1 (Lt.notD rfl) rfl) (by obtain ⟨n1, hn1⟩ := hI.world.any; obtain ⟨-, -, y0, y1, y2, y3, y4, y5, y6⟩ := K.out w' (HBs.out.trans ((AS.low (by omega) szs OB1.out hn1).mono (by omega))); exact rng7 y0 y1 y2 y3 y4 y5 y6) (by kernel_rfl) (by kernel_rfl))
            | 3, _ => injection ho with ho; subst ho; exact LtC.read rfl rfl rfl (fun L a w' hI hL hq => Lt.ex_move rfl (hI.fix 5 (Lt.notD rfl) rfl))
            | 4, _ => injection ho with ho; subst ho; exact LtC.call (m := 0) (args := fun _ => #[.agg #[.int .i64 (o : Int), .int .i64 (s : Int), .int .i64 (h : Int), .int .i64 (r : Int), .int .i64 (k : Int), .int .i64 s5, .slice (some ⟨b, off, none⟩) z cap], .int .i64 ((m : Int) + 1)]) (by decide) rfl rfl rfl rfl (fun L _ e => absurd e (by decide)) (fun L hq m1 j1 e1 _ => absurd e1 (by omega)) (fun L a w' hI hq hS => Lt.call2 rfl (hI.pure 2 _ _ rfl (hq ⟨2, .data⟩ (by simp) rfl)) (hI.pure 3 _ _ rfl (hq ⟨3, .data⟩ (by simp) rfl)) rfl (by simp [go_sem])) (fun s1 w1 hS => (OO.out w1).mono (by rintro e w2 ⟨⟨p, cp, rfl, hcp, hp⟩, hb2⟩; exact ⟨_, rfl, Below.trans hS (hb2.mono hS.size), ⟨p, cp, by simp, hcp, hp (by omega)⟩⟩))
            | 5, _ => injection ho with ho; subst ho; exact LtC.read rfl rfl rfl (fun L a w' hI hL hq => Lt.ex_field rfl (hI.fix 3 (Lt.notD rfl) rfl) (by simp [go_sem]))
            | 6, _ => injection ho with ho; subst ho; exact LtC.read rfl rfl rfl (fun L a w' hI hL hq => Lt.ex_load rfl (hI.pure 5 _ _ rfl (hq ⟨5, .data⟩ (by simp) rfl)) (by simp [go_sem]) (by obtain ⟨n1, hn1⟩ := hI.world.any; exact AS.other (by omega) szs OB1.out hn1 RVs.out (i := 1) (by decide) (by decide)))
            | 7, _ => injection ho with ho; subst ho; exact LtC.call (m := 1) (args := fun s1 => #[s1 53, .int .i64 (f 0 / 8 % 2)]) (by decide) rfl rfl rfl rfl (fun L _ e => absurd e (by decide)) (fun L hq m1 j1 e1 hj => by (cases (show m1 = 0 from (by omega))); cases hj; exact hq ⟨4, .data⟩ (by simp) rfl) (fun L a w' hI hq hS => Lt.call2 rfl rfl (hI.pure 6 _ _ rfl (hq ⟨6, .data⟩ (by simp) rfl)) rfl (by simp [go_sem])) (fun s1 w1 hS => by obtain ⟨hb1, p, cp, e1, hcp, hp⟩ := hS; subst hp; simp only [e1]; refine (objectOf_ok (w := w1) (cap := cp) (co := f 0 / 8 % 2) (g := fun i => f (a1 + i)) hs4 hcp (part_sees (at' := a1) (n := 3 + s) HSS.out ((K.out wr HBs.out).1.trans (hb1.mono (K.out wr HBs.out).1.size)) hB (by omega) (fun _ => rfl)) (Nat.le_refl _) (by simpa using fa.1) (by simpa using fa.2)).mono ?_; rintro e w2 ⟨⟨ai, ci, rfl, HO2⟩, hb2⟩; exact ⟨_, rfl, hb1.trans (hb2.mono hb1.size), ⟨ai, ci, by simp, owns_low HO2.out hb1.size⟩⟩)
            | 8, _ => injection ho with ho; subst ho; exact LtC.link (m := 2) (by decide) rfl rfl rfl rfl (fun L _ e => absurd e (by decide)) (fun L hq m1 j1 e1 hj => by (cases (show m1 = 1 from (by omega))); cases hj; exact hq ⟨7, .data⟩ (by simp) rfl) (fun L a w' Kq hI hq hS hk => by obtain ⟨hb1, ai, ci, e1, HO1⟩ := hS; refine Lt.wp_value (ex_bsO rfl e1) (hk _ _ ?_); refine ⟨hb1.alloc hb1.size _, ⟨ai, ci, by simpa using e1, HO1.alloc _⟩, w'.heap.size, by simp, ?_⟩; intro j u hj; simp only [show (56 : Nat) = 57 ↔ False by decide, if_false] at hj; rw [show a.eval (.tmp 56) = _ from e1] at hj; exact cells_new w' _ _ j u (by simpa [Value.cells] using hj))
            | 9, _ => injection ho with ho; subst ho; exact LtC.link (m := 3) (by decide) rfl rfl rfl rfl (fun L hq e => hq ⟨1, .data⟩ (by simp) rfl) (fun L hq m1 j1 e1 hj => by (cases (show m1 = 2 from (by omega))); cases hj; exact hq ⟨8, .data⟩ (by simp) rfl) (fun L a w' Kq hI hq hS hk => by obtain ⟨hb1, ⟨ai, ci, e1, HO1⟩, g6, e6, hc6⟩ := hS; exact wp_append (.tmp 50) (.tmp 57) 27 rfl (vb + 1) 46 iO zO 9 64 Tryz.underlying27 hiO hzO hsO hyO hcO (by decide) ov m os (hI.pure 1 _ _ rfl (hq ⟨1, .data⟩ (by simp) rfl)) (owns_on OB1.out hb1) ⟨g6, 0, none⟩ 1 1 (a.eval (.tmp 56)).cells.toList e6 (by rw [show a.eval (.tmp 56) = _ from e1]; rfl) (fun j u hj => hc6 j u hj) (by rw [show a.eval (.tmp 56) = _ from e1]; simp [Value.cells, Value.oneCell']) (by unfold maxLen; omega) (by omega) (by have := hb1.size; omega) (fun v2 w2 hown hgr => hk v2 w2 ⟨w', hb1, ⟨ai, ci, by simpa using e1, HO1⟩, hgr, by simpa using hown⟩))
            | 10, _ => injection ho with ho; subst ho; exact LtC.read rfl rfl rfl (fun L a w' hI hL hq => Lt.ex_field rfl (hI.fix 3 (Lt.notD rfl) rfl) (by simp [go_sem]))
            | 11, _ => injection ho with ho; subst ho; exact LtC.store (m := 4) (by decide) rfl rfl rfl (fun L _ e => absurd e (by decide)) (fun L hq m1 j1 e1 hj => by (cases (show m1 = 3 from (by omega))); cases hj; exact hq ⟨9, .data⟩ (by simp) rfl) (fun L a w' Kq hI hq hS hk => by obtain ⟨w6, hb6, hB6, hgr, hown⟩ := hS; obtain ⟨ao, cp, e4⟩ := own_slice hown; have R6 := (row_on RVs.out hb6).of_block (hgr.block vb (by have := hb6.size; omega) (fun e => by have := (OB1.out.lt vb e.symm).1; omega)); exact wp_storeS rfl rfl (hI.pure 10 _ _ rfl (hq ⟨10, .data⟩ (by simp) rfl)) e4 (by kernel_rfl) (R6.cell (i := 6) (by decide)) (R6.frozen 6) (hk _ _ ⟨w6, w', hb6, hB6, hgr, hown, by rw [show (fun k => a.eval (.tmp k)) 58 = _ from e4]⟩))
          case Bfi =>
            intro L a' w' hI hall
            obtain ⟨h4, ⟨w6, hb6, ⟨ai, ci, eg, HOg⟩, hk6⟩, hkr, hrow, hlow⟩ := AS.end (by omega) szs OB1.out (hI.world.done (fun i hi => hall i (by simp at hi ⊢; omega)))
            have hfr := LtH.frame hI [49, 50, 51, 52, 53, 54, 55, 56, 57, 58, 59] rfl rfl (fun x hx => by simp at hx ⊢; omega)
            have e49 : a'.eval (.tmp 49) = .pointer (some ⟨vb, 6, none⟩) := hI.pure 0 _ _ rfl (hall 0 (by decide))
            have e50 : a'.eval (.tmp 50) = ov := hI.pure 1 _ _ rfl (hall 1 (by decide))
            have e51 : a'.eval (.tmp 51) = .agg #[.int .i64 (o : Int), .int .i64 (s : Int), .int .i64 (h : Int), .int .i64 (r : Int), .int .i64 (k : Int), .int .i64 s5, .slice (some ⟨b, off, none⟩) z cap] := hI.pure 2 _ _ rfl (hall 2 (by decide))
            have e52 : a'.eval (.tmp 52) = .int .i64 ((m : Int) + 1) := hI.pure 3 _ _ rfl (hall 3 (by decide))
            have e54 : a'.eval (.tmp 54) = .pointer (some ⟨vb, 1, none⟩) := hI.pure 5 _ _ rfl (hall 5 (by decide))
            have e55 : a'.eval (.tmp 55) = .int .i64 (f 0 / 8 % 2) := hI.pure 6 _ _ rfl (hall 6 (by decide))
            have e59 : a'.eval (.tmp 59) = .pointer (some ⟨vb, 6, none⟩) := hI.pure 10 _ _ rfl (hall 10 (by decide))
            obtain ⟨t53, e53⟩ : ∃ t, a'.eval (.tmp 53) = t := ⟨_, rfl⟩
            obtain ⟨t56, e56⟩ : ∃ t, a'.eval (.tmp 56) = t := ⟨_, rfl⟩
            obtain ⟨t57, e57⟩ : ∃ t, a'.eval (.tmp 57) = t := ⟨_, rfl⟩
            obtain ⟨t58, e58⟩ : ∃ t, a'.eval (.tmp 58) = t := ⟨_, rfl⟩
            simp only [e56, e58] at h4 eg hrow
            have H4 := hide h4
            have HK6 := hide hk6
            have HKR := hide hkr
            have HRW := hide (hrow _ _ _ RVs.out rfl)
            have HLW := hide hlow
            have HGG := hide HOg
            have EG := hide eg
            rw [hfr]
            simp only [LtH.lay, List.foldl, e49, e50, e51, e52, e53, e54, e55, e56, e57, e58, e59]
            clear hfr hI hall e49 e50 e51 e52 e53 e54 e55 e56 e57 e58 e59 h4 hk6 hkr hrow hlow HOg eg u0
            go_wp2_with fail
            go_roundw
            case rel =>
              refine ⟨m + 1, t58, by omega, by go_num, HRW.out, ?_, HKR.out _ _ _ _ _ (by decide) OWs.out, HKR.out _ _ _ _ _ (by decide) OAs.out, ?_, HWs.out.trans HLW.out⟩
              · have hol : os.length = m * 9 := OB1.out.1
                refine ⟨os ++ (t56.cells.toList), H4.out, fun j hj => ?_⟩
                by_cases hjm : j < m
                · obtain ⟨aj, cj, h1, h2⟩ := OB2.out j hjm
                  exact ⟨aj, cj, fun q hq => by rw [List.getElem?_append_left (by omega)]; exact h1 q hq, HKR.out _ _ _ _ _ (by decide) h2⟩
                · have hjm2 : j = m := by omega
                  subst hjm2
                  refine ⟨ai, ci, fun q hq => ?_, HK6.out _ _ _ _ _ (by decide) ?_⟩
                  · rw [List.getElem?_append_right (by omega), hol, show j * 9 + q - j * 9 = q by omega, EG.out]
                    have h7 := Ob.cells_get (obAt ⟨o, s, h, r, k⟩ f j) (.slice ai s ci) hq
                    rw [← h7]
                    unfold obAt Ob.cells
                    simp only [HA1.out]
                    rfl
                  · have h6 := owns_low HGG.out (show vb + 1 ≤ wr.heap.size from szs)
                    unfold obAt
                    simp only [HA1.out]
                    exact h6
              · obtain ⟨rs, h1, h2⟩ := ORs.out
                exact ⟨rs, HKR.out _ _ _ _ _ (by decide) h1, fun j hj => by obtain ⟨ai, ci, h3, h4⟩ := h2 j hj; exact ⟨ai, ci, h3, HKR.out _ _ _ _ _ (by decide) h4⟩⟩
            case measure => simp [intOf]; omega
        · have hlt2 : ¬ (m : Int) + 1 ≤ (o : Int) := by omega
          have hmo : o = m := by omega
          subst hmo
          have sz0 := szs
          obtain ⟨y0, y1, y2, y3, y4, y5, y6⟩ := (K.out wr HBs.out).2.2
          have hxv : ¬ w.heap.size = vb := by omega
          clear hm x0
          have RAs := hide (show wr.rowIs W0.heap.size 31 14 (lrow [.int .i64 0, .int .i64 0, .int .u64 0, .slice none 0 0, .slice none 0 0, .slice none 0 0, .slice none 0 0, .slice none 0 0, .slice none 0 0, .slice none 0 0, .int .u64 0, .int .u64 0, .int .u64 0, .int .u64 0]) from RA9.out.of_block (HWs.out.block _ (by omega)))
          obtain ⟨R1, hR1⟩ : ∃ R, lst ⟨o, s, h, r, k⟩ f 1 1 = R := ⟨_, rfl⟩
          have HR1 := hide hR1
          have FO1 := hide (free_ok (b := b) (off := off) (s5 := s5) H hz hc (w := wr) ((HSS.out.below (K.out wr HBs.out).1 hB)) (by have := (K.out wr HBs.out).1.size; omega) HF.out)
          rw [hR1] at FO1
          clear hR1
          go_upto_region 15 with (go_at_call 62; refine FO1.out.mono ?_; rintro e v1 ⟨⟨fa1, cf1, rfl, HL1⟩, hbb⟩; have HV1 := hide hbb; clear hbb; have ec := (row_on RVs.out HV1.out).cell (i := 7) (by decide); have fz := (row_on RVs.out HV1.out).frozen 7)
          obtain ⟨X1, hW⟩ : ∃ W, v1.setCell ⟨vb, 7, none⟩ (.slice fa1 R1.1.length cf1) = W := ⟨_, rfl⟩
          have RV1 := hide (show X1.rowIs vb 31 14 (lrow [.int .i64 (f 0 % 8), .int .i64 (f 0 / 8 % 2), .int .u64 (f 0 / 256), .slice (some ⟨g5, 0, none⟩) h h, rv, .slice (some ⟨g8, 0, none⟩) k k, ov, .slice fa1 R1.1.length cf1, .slice none 0 0, .slice none 0 0, .int .u64 0, .int .u64 0, .int .u64 0, .int .u64 0]) by rw [← hW]; exact row_set (row_on RVs.out HV1.out) rfl 7 _)
          have RAx1 := hide (show X1.rowIs W0.heap.size 31 14 (lrow [.int .i64 0, .int .i64 0, .int .u64 0, .slice none 0 0, .slice none 0 0, .slice none 0 0, .slice none 0 0, .slice none 0 0, .slice none 0 0, .slice none 0 0, .int .u64 0, .int .u64 0, .int .u64 0, .int .u64 0]) by rw [← hW]; exact (row_on RAs.out HV1.out).of_block (Below.heap_setCell _ _ _ _ (by simp only; omega)))
          have HBx1 := hide (show Below W0.heap.size W0 X1 by rw [← hW]; exact (HBs.out.trans (HV1.out.mono HBs.out.size)).setCell (by simp only; omega) _)
          have szx1 : vb + 1 ≤ X1.heap.size := by rw [← hW]; have := HV1.out.size; simp; omega
          have OW1x := hide (show X1.ownsRow (vb + 1) 24 1 (.slice (some ⟨g8, 0, none⟩) k k) k (wcs k (fun i => f (bK ⟨o, s, h, r, k⟩ + i))) by rw [← hW]; exact owns_set (owns_on OWs.out HV1.out) (by simp only; omega) _)
          have OA1x := hide (show X1.ownsRow (vb + 1) 24 1 (.slice (some ⟨g5, 0, none⟩) h h) h (wcs h (fun i => f (8 + i))) by rw [← hW]; exact owns_set (owns_on OAs.out HV1.out) (by simp only; omega) _)
          have OR1x := hide (show ∃ rs, X1.ownsRow (vb + 1) 25 1 rv h rs ∧ ∀ j, j < h → ∃ ai ci, rs[j]? = some (.slice ai r ci) ∧ X1.ownsRow (vb + 1) 24 1 (.slice ai r ci) r (wcs r (fun p => f (bR ⟨o, s, h, r, k⟩ + j * r + p))) by obtain ⟨rs, h1, h2⟩ := ORs.out; rw [← hW]; exact ⟨rs, owns_set (owns_on h1 HV1.out) (by simp only; omega) _, fun j hj => by obtain ⟨ai, ci, h3, h4⟩ := h2 j hj; exact ⟨ai, ci, h3, owns_set (owns_on h4 HV1.out) (by simp only; omega) _⟩⟩)
          have OB1x := hide (show ∃ os, X1.ownsRow (vb + 1) 46 9 ov o os ∧ ∀ j, j < o → ∃ ai ci, (∀ q, q < 9 → os[j * 9 + q]? = some ((obAt ⟨o, s, h, r, k⟩ f j).cell (.slice ai s ci) q)) ∧ X1.ownsRow (vb + 1) 24 1 (.slice ai s ci) s (wcs s (obAt ⟨o, s, h, r, k⟩ f j).sl) by obtain ⟨rs, h1, h2⟩ := OBs.out; rw [← hW]; exact ⟨rs, owns_set (owns_on h1 HV1.out) (by simp only; omega) _, fun j hj => by obtain ⟨ai, ci, h3, h4⟩ := h2 j hj; exact ⟨ai, ci, h3, owns_set (owns_on h4 HV1.out) (by simp only; omega) _⟩⟩)
          have LI1x := hide (show X1.ownsRow (vb + 1) 3 1 (.slice fa1 R1.1.length cf1) R1.1.length (ncs R1.1) by rw [← hW]; exact owns_low (owns_set HL1.out (by simp only; omega) _) (by omega))
          simp only [hW]
          clear hW ec fz y0 y1 y2 y3 y4 y5 y6 FO1 HL1 HV1 RVs RAs OWs OAs ORs OBs
          obtain ⟨y0, y1, y2, y3, y4, y5, y6⟩ := (K.out X1 HBx1.out).2.2
          obtain ⟨R2, hR2⟩ : ∃ R, lst ⟨o, s, h, r, k⟩ f 2 1 = R := ⟨_, rfl⟩
          have HR2 := hide hR2
          have FO2 := hide (grey_ok (b := b) (off := off) (s5 := s5) H hz hc (w := X1) ((HSS.out.below (K.out X1 HBx1.out).1 hB)) (by have := (K.out X1 HBx1.out).1.size; omega) HF.out)
          rw [hR2] at FO2
          clear hR2
          go_upto_region 16 with (go_at_call 63; refine FO2.out.mono ?_; rintro e v2 ⟨⟨fa2, cf2, rfl, HL2⟩, hbb⟩; have HV2 := hide hbb; clear hbb; have ec := (row_on RV1.out HV2.out).cell (i := 8) (by decide); have fz := (row_on RV1.out HV2.out).frozen 8)
          obtain ⟨X2, hW⟩ : ∃ W, v2.setCell ⟨vb, 8, none⟩ (.slice fa2 R2.1.length cf2) = W := ⟨_, rfl⟩
          have RV2 := hide (show X2.rowIs vb 31 14 (lrow [.int .i64 (f 0 % 8), .int .i64 (f 0 / 8 % 2), .int .u64 (f 0 / 256), .slice (some ⟨g5, 0, none⟩) h h, rv, .slice (some ⟨g8, 0, none⟩) k k, ov, .slice fa1 R1.1.length cf1, .slice fa2 R2.1.length cf2, .slice none 0 0, .int .u64 0, .int .u64 0, .int .u64 0, .int .u64 0]) by rw [← hW]; exact row_set (row_on RV1.out HV2.out) rfl 8 _)
          have RAx2 := hide (show X2.rowIs W0.heap.size 31 14 (lrow [.int .i64 0, .int .i64 0, .int .u64 0, .slice none 0 0, .slice none 0 0, .slice none 0 0, .slice none 0 0, .slice none 0 0, .slice none 0 0, .slice none 0 0, .int .u64 0, .int .u64 0, .int .u64 0, .int .u64 0]) by rw [← hW]; exact (row_on RAx1.out HV2.out).of_block (Below.heap_setCell _ _ _ _ (by simp only; omega)))
          have HBx2 := hide (show Below W0.heap.size W0 X2 by rw [← hW]; exact (HBx1.out.trans (HV2.out.mono HBx1.out.size)).setCell (by simp only; omega) _)
          have szx2 : vb + 1 ≤ X2.heap.size := by rw [← hW]; have := HV2.out.size; simp; omega
          have OW1x2x := hide (show X2.ownsRow (vb + 1) 24 1 (.slice (some ⟨g8, 0, none⟩) k k) k (wcs k (fun i => f (bK ⟨o, s, h, r, k⟩ + i))) by rw [← hW]; exact owns_set (owns_on OW1x.out HV2.out) (by simp only; omega) _)
          have OA1x2x := hide (show X2.ownsRow (vb + 1) 24 1 (.slice (some ⟨g5, 0, none⟩) h h) h (wcs h (fun i => f (8 + i))) by rw [← hW]; exact owns_set (owns_on OA1x.out HV2.out) (by simp only; omega) _)
          have OR1x2x := hide (show ∃ rs, X2.ownsRow (vb + 1) 25 1 rv h rs ∧ ∀ j, j < h → ∃ ai ci, rs[j]? = some (.slice ai r ci) ∧ X2.ownsRow (vb + 1) 24 1 (.slice ai r ci) r (wcs r (fun p => f (bR ⟨o, s, h, r, k⟩ + j * r + p))) by obtain ⟨rs, h1, h2⟩ := OR1x.out; rw [← hW]; exact ⟨rs, owns_set (owns_on h1 HV2.out) (by simp only; omega) _, fun j hj => by obtain ⟨ai, ci, h3, h4⟩ := h2 j hj; exact ⟨ai, ci, h3, owns_set (owns_on h4 HV2.out) (by simp only; omega) _⟩⟩)
          have OB1x2x := hide (show ∃ os, X2.ownsRow (vb + 1) 46 9 ov o os ∧ ∀ j, j < o → ∃ ai ci, (∀ q, q < 9 → os[j * 9 + q]? = some ((obAt ⟨o, s, h, r, k⟩ f j).cell (.slice ai s ci) q)) ∧ X2.ownsRow (vb + 1) 24 1 (.slice ai s ci) s (wcs s (obAt ⟨o, s, h, r, k⟩ f j).sl) by obtain ⟨rs, h1, h2⟩ := OB1x.out; rw [← hW]; exact ⟨rs, owns_set (owns_on h1 HV2.out) (by simp only; omega) _, fun j hj => by obtain ⟨ai, ci, h3, h4⟩ := h2 j hj; exact ⟨ai, ci, h3, owns_set (owns_on h4 HV2.out) (by simp only; omega) _⟩⟩)
          have LI1x2x := hide (show X2.ownsRow (vb + 1) 3 1 (.slice fa1 R1.1.length cf1) R1.1.length (ncs R1.1) by rw [← hW]; exact owns_set (owns_on LI1x.out HV2.out) (by simp only; omega) _)
          have LI2x := hide (show X2.ownsRow (vb + 1) 3 1 (.slice fa2 R2.1.length cf2) R2.1.length (ncs R2.1) by rw [← hW]; exact owns_low (owns_set HL2.out (by simp only; omega) _) (by omega))
          simp only [hW]
          clear hW ec fz y0 y1 y2 y3 y4 y5 y6 FO2 HL2 HV2 RV1 RAx1 OW1x OA1x OR1x OB1x LI1x
          obtain ⟨y0, y1, y2, y3, y4, y5, y6⟩ := (K.out X2 HBx2.out).2.2
          obtain ⟨R3, hR3⟩ : ∃ R, lst ⟨o, s, h, r, k⟩ f 3 2 = R := ⟨_, rfl⟩
          have HR3 := hide hR3
          have FO3 := hide (queue_ok (b := b) (off := off) (s5 := s5) H hz hc (w := X2) ((HSS.out.below (K.out X2 HBx2.out).1 hB)) (by have := (K.out X2 HBx2.out).1.size; omega) HF.out)
          rw [hR3] at FO3
          clear hR3
          go_upto_region 17 with (go_at_call 64; refine FO3.out.mono ?_; rintro e v3 ⟨⟨fa3, cf3, rfl, HL3⟩, hbb⟩; have HV3 := hide hbb; clear hbb; have ec := (row_on RV2.out HV3.out).cell (i := 9) (by decide); have fz := (row_on RV2.out HV3.out).frozen 9)
          obtain ⟨X3, hW⟩ : ∃ W, v3.setCell ⟨vb, 9, none⟩ (.slice fa3 R3.1.length cf3) = W := ⟨_, rfl⟩
          have RV3 := hide (show X3.rowIs vb 31 14 (lrow [.int .i64 (f 0 % 8), .int .i64 (f 0 / 8 % 2), .int .u64 (f 0 / 256), .slice (some ⟨g5, 0, none⟩) h h, rv, .slice (some ⟨g8, 0, none⟩) k k, ov, .slice fa1 R1.1.length cf1, .slice fa2 R2.1.length cf2, .slice fa3 R3.1.length cf3, .int .u64 0, .int .u64 0, .int .u64 0, .int .u64 0]) by rw [← hW]; exact row_set (row_on RV2.out HV3.out) rfl 9 _)
          have RAx3 := hide (show X3.rowIs W0.heap.size 31 14 (lrow [.int .i64 0, .int .i64 0, .int .u64 0, .slice none 0 0, .slice none 0 0, .slice none 0 0, .slice none 0 0, .slice none 0 0, .slice none 0 0, .slice none 0 0, .int .u64 0, .int .u64 0, .int .u64 0, .int .u64 0]) by rw [← hW]; exact (row_on RAx2.out HV3.out).of_block (Below.heap_setCell _ _ _ _ (by simp only; omega)))
          have HBx3 := hide (show Below W0.heap.size W0 X3 by rw [← hW]; exact (HBx2.out.trans (HV3.out.mono HBx2.out.size)).setCell (by simp only; omega) _)
          have szx3 : vb + 1 ≤ X3.heap.size := by rw [← hW]; have := HV3.out.size; simp; omega
          have OW1x2x3x := hide (show X3.ownsRow (vb + 1) 24 1 (.slice (some ⟨g8, 0, none⟩) k k) k (wcs k (fun i => f (bK ⟨o, s, h, r, k⟩ + i))) by rw [← hW]; exact owns_set (owns_on OW1x2x.out HV3.out) (by simp only; omega) _)
          have OA1x2x3x := hide (show X3.ownsRow (vb + 1) 24 1 (.slice (some ⟨g5, 0, none⟩) h h) h (wcs h (fun i => f (8 + i))) by rw [← hW]; exact owns_set (owns_on OA1x2x.out HV3.out) (by simp only; omega) _)
          have OR1x2x3x := hide (show ∃ rs, X3.ownsRow (vb + 1) 25 1 rv h rs ∧ ∀ j, j < h → ∃ ai ci, rs[j]? = some (.slice ai r ci) ∧ X3.ownsRow (vb + 1) 24 1 (.slice ai r ci) r (wcs r (fun p => f (bR ⟨o, s, h, r, k⟩ + j * r + p))) by obtain ⟨rs, h1, h2⟩ := OR1x2x.out; rw [← hW]; exact ⟨rs, owns_set (owns_on h1 HV3.out) (by simp only; omega) _, fun j hj => by obtain ⟨ai, ci, h3, h4⟩ := h2 j hj; exact ⟨ai, ci, h3, owns_set (owns_on h4 HV3.out) (by simp only; omega) _⟩⟩)
          have OB1x2x3x := hide (show ∃ os, X3.ownsRow (vb + 1) 46 9 ov o os ∧ ∀ j, j < o → ∃ ai ci, (∀ q, q < 9 → os[j * 9 + q]? = some ((obAt ⟨o, s, h, r, k⟩ f j).cell (.slice ai s ci) q)) ∧ X3.ownsRow (vb + 1) 24 1 (.slice ai s ci) s (wcs s (obAt ⟨o, s, h, r, k⟩ f j).sl) by obtain ⟨rs, h1, h2⟩ := OB1x2x.out; rw [← hW]; exact ⟨rs, owns_set (owns_on h1 HV3.out) (by simp only; omega) _, fun j hj => by obtain ⟨ai, ci, h3, h4⟩ := h2 j hj; exact ⟨ai, ci, h3, owns_set (owns_on h4 HV3.out) (by simp only; omega) _⟩⟩)
          have LI1x2x3x := hide (show X3.ownsRow (vb + 1) 3 1 (.slice fa1 R1.1.length cf1) R1.1.length (ncs R1.1) by rw [← hW]; exact owns_set (owns_on LI1x2x.out HV3.out) (by simp only; omega) _)
          have LI2x3x := hide (show X3.ownsRow (vb + 1) 3 1 (.slice fa2 R2.1.length cf2) R2.1.length (ncs R2.1) by rw [← hW]; exact owns_set (owns_on LI2x.out HV3.out) (by simp only; omega) _)
          have LI3x := hide (show X3.ownsRow (vb + 1) 3 1 (.slice fa3 R3.1.length cf3) R3.1.length (ncs R3.1) by rw [← hW]; exact owns_low (owns_set HL3.out (by simp only; omega) _) (by omega))
          simp only [hW]
          clear hW ec fz y0 y1 y2 y3 y4 y5 y6 FO3 HL3 HV3 RV2 RAx2 OW1x2x OA1x2x OR1x2x OB1x2x LI1x2x LI2x
          obtain ⟨y0, y1, y2, y3, y4, y5, y6⟩ := (K.out X3 HBx3.out).2.2
          obtain ⟨L3, hL3⟩ : ∃ L, [.int .i64 (f 0 % 8), .int .i64 (f 0 / 8 % 2), .int .u64 (f 0 / 256), .slice (some ⟨g5, 0, none⟩) h h, rv, .slice (some ⟨g8, 0, none⟩) k k, ov, .slice fa1 R1.1.length cf1, .slice fa2 R2.1.length cf2, .slice fa3 R3.1.length cf3, .int .u64 0, .int .u64 0, .int .u64 0, .int .u64 0] = L := ⟨_, rfl⟩
          have HL3 := hide (show X3.heap[vb]? = some (.cells L3.toArray 31 (0, 0)) ∧ L3.length = 14 from by
            obtain ⟨cu, h1, h2, h3⟩ := RV3.out
            have e : cu = L3.toArray := by
              rw [← hL3]
              apply Array.ext
              · simpa using h2
              · intro i i1 i2
                have h4 := h3 i (by omega)
                rw [Array.getElem?_eq_getElem i1] at h4
                injection h4 with h4
                rw [h4]
                simp [lrow, List.getElem?_eq_getElem (show i < _ from i2)]
            rw [← e]
            exact ⟨h1, by rw [← hL3]; rfl⟩)
          have HLL := hide hL3
          clear hL3
          refine LtH.region2 (ks := [(0, 78), (1, 79), (2, 80)]) (vals := fun iv => match iv with | 0 => .pointer (some ⟨vb, 10, none⟩) | 1 => .slice (some ⟨vb, 10, none⟩) 4 4 | 2 => .agg #[.int .i64 (o : Int), .int .i64 (s : Int), .int .i64 (h : Int), .int .i64 (r : Int), .int .i64 (k : Int), .int .i64 s5, .slice (some ⟨b, off, none⟩) z cap] | _ => undef) (xs := [81, 82]) (WI := LtC.WI [3, 4] 4 1 (CS X3 vb L3 31 (⟨b, off + 4, none⟩ : Addr) (wcs 4 (fun i => f (4 + i))))) (by kernel_rfl) ?Cgd ?Cbk rfl ?Cdd ?Cxx ?Clc ?Cst ?Cdo ?Cfi
          case Cgd =>
            intro iq oq ho
            have hiq : iq < 5 := by have := (Array.getElem?_eq_some_iff.1 ho).1; simpa using this
            match iq, hiq with
            | 0, _ | 1, _ | 2, _ | 3, _ | 4, _ => injection ho with ho; subst ho; rfl
          case Cbk =>
            intro iq oq ho
            have hiq : iq < 5 := by have := (Array.getElem?_eq_some_iff.1 ho).1; simpa using this
            match iq, hiq with
            | 0, _ | 1, _ | 2, _ | 3, _ | 4, _ => injection ho with ho; subst ho; simp [Region.binds]
          case Cdd =>
            intro kq hk
            have hk2 : kq < 84 := by
              simp [Lt.D] at hk
              omega
            exact hk2
          case Cxx =>
            intro kq hk
            have hk2 : kq < 84 := by
              simp at hk
              omega
            exact hk2
          case Clc =>
            rintro L s1 s2 w1 hx ⟨⟨n1, h1, h2, h3⟩, h4⟩
            exact ⟨⟨n1, h1, h2, CS.local (hx 81 rfl) (hx 82 rfl) h3⟩, h4⟩
          case Cst => exact LtC.WI.start ⟨rfl, rfl, rfl, Nat.le_refl _, fun _ _ => rfl⟩
          case Cdo =>
            intro iq oq ho
            have hiq : iq < 5 := by have := (Array.getElem?_eq_some_iff.1 ho).1; simpa using this
            match iq, hiq with
            | 0, _ => injection ho with ho; subst ho; exact LtC.read rfl rfl rfl (fun L a w' hI hL hq => Lt.ex_field rfl (hI.fix 3 (Lt.notD rfl) rfl) (by simp [go_sem]))
            | 1, _ => injection ho with ho; subst ho; exact LtC.read rfl rfl rfl (fun L a w' hI hL hq => ex_arr rfl (hI.pure 0 _ _ rfl (hq ⟨0, .data⟩ (by simp) rfl)))
            | 2, _ => injection ho with ho; subst ho; exact LtC.read rfl rfl rfl (fun L a w' hI hL hq => Lt.ex_load_row rfl (hI.fix 1 (Lt.notD rfl) rfl) (by obtain ⟨n1, hn1⟩ := hI.world.any; obtain ⟨-, -, z0, z1, z2, z3, z4, z5, z6⟩ := K.out w' (HBx3.out.trans ((CS.low (by omega) hn1).mono (by omega))); exact rng7 z0 z1 z2 z3 z4 z5 z6) (by kernel_rfl) (by kernel_rfl))
            | 3, _ => injection ho with ho; subst ho; exact LtC.call (m := 0) (args := fun _ => #[.agg #[.int .i64 (o : Int), .int .i64 (s : Int), .int .i64 (h : Int), .int .i64 (r : Int), .int .i64 (k : Int), .int .i64 s5, .slice (some ⟨b, off, none⟩) z cap]]) (by decide) rfl rfl rfl rfl (fun L _ e => absurd e (by decide)) (fun L hq m1 j1 e1 _ => absurd e1 (by omega)) (fun L a w' hI hq hS => Lt.call1 rfl (hI.pure 2 _ _ rfl (hq ⟨2, .data⟩ (by simp) rfl)) rfl (by simp [go_sem])) (fun s1 w1 hS => (counts_ok (b := b) (off := off) (s5 := s5) z8 hc w1).mono (by rintro e w2 ⟨⟨p, cp, rfl, hcp, rfl⟩, hb2⟩; exact ⟨_, rfl, Below.trans hS (hb2.mono hS.size), ⟨cp, by simp⟩⟩))
            | 4, _ => injection ho with ho; subst ho; exact LtC.link (m := 1) (by decide) rfl rfl rfl rfl (fun L hq e => hq ⟨1, .data⟩ (by simp) rfl) (fun L hq m1 j1 e1 hj => by (cases (show m1 = 0 from (by omega))); cases hj; exact hq ⟨3, .data⟩ (by simp) rfl) (fun L a w' Kq hI hq hS hk => by obtain ⟨hb1, cp, e1⟩ := hS; obtain ⟨W', hr, hg, hbw, hoth⟩ := copy_run (W := w') (g := vb) (L := L3) (t := 31) (ao := some ⟨b, off + 4, none⟩) (n := 4) (m := 4) (c := 4) (cap := cp) (f := fun i => f (4 + i)) ((hb1.block vb (by omega)).trans HL3.out.1) (part_sees (at' := 4) (n := 4) HSS.out ((K.out X3 HBx3.out).1.trans (hb1.mono (K.out X3 HBx3.out).1.size)) hB (by omega) (fun _ => rfl)) 10 (by rw [HL3.out.2]; decide) rfl; refine Lt.wp_value (v := goInt 4) (w' := W') ?_ (hk _ _ ⟨by simp, w', hb1, hg.out, hoth, hbw vb (Nat.le_refl _)⟩); exact ex_copy rfl (hI.pure 1 _ _ rfl (hq ⟨1, .data⟩ (by simp) rfl)) e1 hr)
          case Cfi =>
            intro L a' w' hI hall
            obtain ⟨ra, cr, hrv⟩ : ∃ ra cr, rv = .slice ra h cr := by obtain ⟨rs, h1, h2⟩ := OR1x2x3x.out; exact own_slice h1
            obtain ⟨oa, cb, hov⟩ : ∃ oa cb, ov = .slice oa o cb := by obtain ⟨rs, h1, h2⟩ := OB1x2x3x.out; exact own_slice h1
            subst hrv
            subst hov
            obtain ⟨e82, w6, hb6, hgv, hoth, hbv⟩ := hI.world.done (fun i hi => hall i (by simp at hi ⊢; omega))
            have hfr := LtH.frame hI [78, 79, 80, 81, 82] rfl rfl (fun x hx => by simp at hx ⊢; omega)
            have e78 : a'.eval (.tmp 78) = .pointer (some ⟨vb, 10, none⟩) := hI.pure 0 _ _ rfl (hall 0 (by decide))
            have e79 : a'.eval (.tmp 79) = .slice (some ⟨vb, 10, none⟩) 4 4 := hI.pure 1 _ _ rfl (hall 1 (by decide))
            have e80 : a'.eval (.tmp 80) = .agg #[.int .i64 (o : Int), .int .i64 (s : Int), .int .i64 (h : Int), .int .i64 (r : Int), .int .i64 (k : Int), .int .i64 s5, .slice (some ⟨b, off, none⟩) z cap] := hI.pure 2 _ _ rfl (hall 2 (by decide))
            obtain ⟨t81, e81⟩ : ∃ t, a'.eval (.tmp 81) = t := ⟨_, rfl⟩
            simp only at e82
            have RV4 : w'.rowIs vb 31 14 (lrow [.int .i64 (f 0 % 8), .int .i64 (f 0 / 8 % 2), .int .u64 (f 0 / 256), .slice (some ⟨g5, 0, none⟩) h h, .slice ra h cr, .slice (some ⟨g8, 0, none⟩) k k, .slice oa o cb, .slice fa1 R1.1.length cf1, .slice fa2 R2.1.length cf2, .slice fa3 R3.1.length cf3, .int .u64 (f 4), .int .u64 (f 5), .int .u64 (f 6), .int .u64 (f 7)]) := by
              refine ⟨_, hgv, ?_, fun i hi => ?_⟩
              · rw [← HLL.out]; rfl
              · rw [← HLL.out]
                match i, hi with
                | 0, _ | 1, _ | 2, _ | 3, _ | 4, _ | 5, _ | 6, _ | 7, _ | 8, _ | 9, _ | 10, _ | 11, _ | 12, _ | 13, _ => rfl
            have RA4 : w'.rowIs W0.heap.size 31 14 (lrow [.int .i64 0, .int .i64 0, .int .u64 0, .slice none 0 0, .slice none 0 0, .slice none 0 0, .slice none 0 0, .slice none 0 0, .slice none 0 0, .slice none 0 0, .int .u64 0, .int .u64 0, .int .u64 0, .int .u64 0]) := (row_on RAx3.out hb6).of_block (hbv.block _ (by omega))
            have KP := hide (show ∀ e' size' v' n' xs', X3.ownsRow (vb + 1) e' size' v' n' xs' → w'.ownsRow (vb + 1) e' size' v' n' xs' from fun e' size' v' n' xs' h1 => owns_keep (owns_on h1 hb6) (fun b1 _ h2 => hoth b1 (by omega)))
            have HBw := hide (show Below w.heap.size w w' from (K.out X3 HBx3.out).1.trans (((hb6.mono (show vb ≤ X3.heap.size by omega)).trans hbv).mono (by omega)))
            have hsz4 : vb < w'.heap.size := RV4.lt
            rw [hfr]
            simp only [LtH.lay, List.foldl, e78, e79, e80, e81, e82]
            have c0 : w'.cell? ⟨vb, 0, none⟩ = some (.int .i64 (f 0 % 8)) := RV4.cell (i := 0) (by decide)
            have c1 : w'.cell? ⟨vb, 1, none⟩ = some (.int .i64 (f 0 / 8 % 2)) := RV4.cell (i := 1) (by decide)
            have c2 : w'.cell? ⟨vb, 2, none⟩ = some (.int .u64 (f 0 / 256)) := RV4.cell (i := 2) (by decide)
            have c3 : w'.cell? ⟨vb, 3, none⟩ = some (.slice (some ⟨g5, 0, none⟩) h h) := RV4.cell (i := 3) (by decide)
            have c4 : w'.cell? ⟨vb, 4, none⟩ = some (.slice ra h cr) := RV4.cell (i := 4) (by decide)
            have c5 : w'.cell? ⟨vb, 5, none⟩ = some (.slice (some ⟨g8, 0, none⟩) k k) := RV4.cell (i := 5) (by decide)
            have c6 : w'.cell? ⟨vb, 6, none⟩ = some (.slice oa o cb) := RV4.cell (i := 6) (by decide)
            have c7 : w'.cell? ⟨vb, 7, none⟩ = some (.slice fa1 R1.1.length cf1) := RV4.cell (i := 7) (by decide)
            have c8 : w'.cell? ⟨vb, 8, none⟩ = some (.slice fa2 R2.1.length cf2) := RV4.cell (i := 8) (by decide)
            have c9 : w'.cell? ⟨vb, 9, none⟩ = some (.slice fa3 R3.1.length cf3) := RV4.cell (i := 9) (by decide)
            have c10 : w'.cell? ⟨vb, 10, none⟩ = some (.int .u64 (f 4)) := RV4.cell (i := 10) (by decide)
            have c11 : w'.cell? ⟨vb, 11, none⟩ = some (.int .u64 (f 5)) := RV4.cell (i := 11) (by decide)
            have c12 : w'.cell? ⟨vb, 12, none⟩ = some (.int .u64 (f 6)) := RV4.cell (i := 12) (by decide)
            have c13 : w'.cell? ⟨vb, 13, none⟩ = some (.int .u64 (f 7)) := RV4.cell (i := 13) (by decide)
            have d0 : w'.cell? ⟨W0.heap.size, 0, none⟩ = some (.int .i64 0) := RA4.cell (i := 0) (by decide)
            have d1 : w'.cell? ⟨W0.heap.size, 1, none⟩ = some (.int .i64 0) := RA4.cell (i := 1) (by decide)
            have d2 : w'.cell? ⟨W0.heap.size, 2, none⟩ = some (.int .u64 0) := RA4.cell (i := 2) (by decide)
            have d3 : w'.cell? ⟨W0.heap.size, 3, none⟩ = some (.slice none 0 0) := RA4.cell (i := 3) (by decide)
            have d4 : w'.cell? ⟨W0.heap.size, 4, none⟩ = some (.slice none 0 0) := RA4.cell (i := 4) (by decide)
            have d5 : w'.cell? ⟨W0.heap.size, 5, none⟩ = some (.slice none 0 0) := RA4.cell (i := 5) (by decide)
            have d6 : w'.cell? ⟨W0.heap.size, 6, none⟩ = some (.slice none 0 0) := RA4.cell (i := 6) (by decide)
            have d7 : w'.cell? ⟨W0.heap.size, 7, none⟩ = some (.slice none 0 0) := RA4.cell (i := 7) (by decide)
            have d8 : w'.cell? ⟨W0.heap.size, 8, none⟩ = some (.slice none 0 0) := RA4.cell (i := 8) (by decide)
            have d9 : w'.cell? ⟨W0.heap.size, 9, none⟩ = some (.slice none 0 0) := RA4.cell (i := 9) (by decide)
            have d10 : w'.cell? ⟨W0.heap.size, 10, none⟩ = some (.int .u64 0) := RA4.cell (i := 10) (by decide)
            have d11 : w'.cell? ⟨W0.heap.size, 11, none⟩ = some (.int .u64 0) := RA4.cell (i := 11) (by decide)
            have d12 : w'.cell? ⟨W0.heap.size, 12, none⟩ = some (.int .u64 0) := RA4.cell (i := 12) (by decide)
            have d13 : w'.cell? ⟨W0.heap.size, 13, none⟩ = some (.int .u64 0) := RA4.cell (i := 13) (by decide)
            have fd : ∀ i, w'.frozen? ⟨W0.heap.size, i, none⟩ = false := fun i => RA4.frozen i
            have hne1 : ¬ W0.heap.size = vb := by omega
            have hne2 : ¬ vb = W0.heap.size := by omega
            clear hfr hI hall e78 e79 e80 e81 e82 RV4 RA4 hgv hoth hbv hb6 y0 y1 y2 y3 y4 y5 y6
            go_wp2_with fail
            refine bodyPost_ret (v := .agg #[.int .i64 (f 0 % 8), .int .i64 (f 0 / 8 % 2), .int .u64 (f 0 / 256), .slice (some ⟨g5, 0, none⟩) h h, .slice ra h cr, .slice (some ⟨g8, 0, none⟩) k k, .slice oa o cb, .slice fa1 R1.1.length cf1, .slice fa2 R2.1.length cf2, .slice fa3 R3.1.length cf3, .int .u64 (f 4), .int .u64 (f 5), .int .u64 (f 6), .int .u64 (f 7)]) (by simp [results, Tryz.results24, go_sem, *]) rfl ⟨⟨⟨some ⟨g5, 0, none⟩, h, ra, cr, some ⟨g8, 0, none⟩, k, oa, cb, fa1, cf1, fa2, cf2, fa3, cf3⟩, ?_, ?_⟩, ?_⟩
            · simp only [vl, cv, HR1.out, HR2.out, HR3.out]
            · refine ⟨?_, ?_, ?_, ?_, ?_, ?_, ?_⟩
              · refine owns_low (base := vb + 1) ?_ (by omega)
                repeat' refine owns_set ?_ (by simp only; omega) _
                exact KP.out _ _ _ _ _ OA1x2x3x.out
              · obtain ⟨rs, h1, h2⟩ := OR1x2x3x.out
                refine ⟨rs, ?_, fun j hj => ?_⟩
                · refine owns_low (base := vb + 1) ?_ (by omega)
                  repeat' refine owns_set ?_ (by simp only; omega) _
                  exact KP.out _ _ _ _ _ h1
                · obtain ⟨ai, ci, h3, h4⟩ := h2 j hj
                  refine ⟨ai, ci, h3, ?_⟩
                  refine owns_low (base := vb + 1) ?_ (by omega)
                  repeat' refine owns_set ?_ (by simp only; omega) _
                  exact KP.out _ _ _ _ _ h4
              · refine owns_low (base := vb + 1) ?_ (by omega)
                repeat' refine owns_set ?_ (by simp only; omega) _
                exact KP.out _ _ _ _ _ OW1x2x3x.out
              · obtain ⟨rs, h1, h2⟩ := OB1x2x3x.out
                refine ⟨rs, ?_, fun j hj => ?_⟩
                · refine owns_low (base := vb + 1) ?_ (by omega)
                  repeat' refine owns_set ?_ (by simp only; omega) _
                  exact KP.out _ _ _ _ _ h1
                · obtain ⟨ai, ci, h3, h4⟩ := h2 j hj
                  refine ⟨ai, ci, h3, ?_⟩
                  refine owns_low (base := vb + 1) ?_ (by omega)
                  repeat' refine owns_set ?_ (by simp only; omega) _
                  exact KP.out _ _ _ _ _ h4
              · simp only [cv, HR1.out]
                refine owns_low (base := vb + 1) ?_ (by omega)
                repeat' refine owns_set ?_ (by simp only; omega) _
                exact KP.out _ _ _ _ _ LI1x2x3x.out
              · simp only [cv, HR2.out]
                refine owns_low (base := vb + 1) ?_ (by omega)
                repeat' refine owns_set ?_ (by simp only; omega) _
                exact KP.out _ _ _ _ _ LI2x3x.out
              · simp only [cv, HR3.out]
                refine owns_low (base := vb + 1) ?_ (by omega)
                repeat' refine owns_set ?_ (by simp only; omega) _
                exact KP.out _ _ _ _ _ LI3x.out
            · repeat' refine Below.setCell ?_ (by simp only; omega) _
              exact HBw.out
end Vw
end Go.Proofs.YtecjegjnnahddaaGreat
