/-
  Lemmas: VwLk.
-/
import Derived.Test.YtecjegjnnahddaaGreatTp20
import Derived.Test.YtecjegjnnahddaaGreatTp28
import Derived.Test.YtecjegjnnahddaaGreatTp24
import Derived.Test.YtecjegjnnahddaaGreatTp32
/-
  View: the document's Lay, of a right shape
-/
namespace Go.Proofs.YtecjegjnnahddaaGreat
open Go.RowKit
set_option linter.unusedVariables false
set_option linter.unusedSimpArgs false
set_option linter.unnecessarySimpa false
set_option maxRecDepth 20000
namespace Vw
open Shape
theorem ex_cvt {ev : Operand → Value} {o : Oper} {w : World} {x : Operand} {v : Int} (ho : o.op = .convert 3 24 x) (hx : ev x = .int .i64 v) : (execOp ev o).run Tryz.prog w = .ok (.value (.int .u64 (IntKind.u64.wrap v))) w := by
  simp [execOp, ho, hx, go_sem]
theorem ex_mulU {ev : Operand → Value} {o : Oper} {w : World} {x y : Operand} {m n z : Int} (ho : o.op = .binOp .mul 24 x y 24) (hx : ev x = .int .u64 m) (hy : ev y = .int .u64 n) (hz : IntKind.u64.wrap (m * n) = z) : (execOp ev o).run Tryz.prog w = .ok (.value (.int .u64 z)) w := by
  subst hz; simp [execOp, ho, hx, hy, go_sem]
theorem ex_addU {ev : Operand → Value} {o : Oper} {w : World} {x y : Operand} {m n z : Int} (ho : o.op = .binOp .add 24 x y 24) (hx : ev x = .int .u64 m) (hy : ev y = .int .u64 n) (hz : IntKind.u64.wrap (m + n) = z) : (execOp ev o).run Tryz.prog w = .ok (.value (.int .u64 z)) w := by
  subst hz; simp [execOp, ho, hx, hy, go_sem]
theorem ex_bs4 {ev : Operand → Value} {o : Oper} {w : World} {x y z u : Operand} {p q r s : Int} (ho : o.op = .buildSlice 25 4 #[(0, x), (1, y), (2, z), (3, u)]) (hx : ev x = .int .u64 p) (hy : ev y = .int .u64 q) (hz : ev z = .int .u64 r) (hu : ev u = .int .u64 s) : (execOp ev o).run Tryz.prog w = .ok (.value (.slice (some ⟨w.heap.size, 0, none⟩) 4 4)) (w.alloc (.cells #[.int .u64 p, .int .u64 q, .int .u64 r, .int .u64 s] 24)) := by
  simp [execOp, ho, hx, hy, hz, hu, go_sem]
/-- What the words' beginning leaves, link by link. -/
def S6 (wr : World) (zb : Nat) (F : Nat → Int) : Nat → (Nat → Value) → World → Prop
  | 0, s, w => Below wr.heap.size wr w
  | 1, s, w => Below wr.heap.size wr w ∧ w.ownsRow zb 24 1 (s 46) 4 (wcs 4 F)
  | _, s, w => Below wr.heap.size wr w ∧ w.ownsRow zb 24 1 (s 7) 4 (wcs 4 F)
theorem S6.local {wr : World} {zb : Nat} {F : Nat → Int} {n : Nat} {s s' : Nat → Value} {w : World} (h1 : s 46 = s' 46) (h2 : s 7 = s' 7) (h : S6 wr zb F n s w) : S6 wr zb F n s' w := by
  match n, h with
  | 0, h => exact h
  | 1, h => simp only [S6] at h ⊢; rw [← h1]; exact h
  | n + 2, h => simp only [S6] at h ⊢; rw [← h2]; exact h
theorem S6.low {wr : World} {zb : Nat} {F : Nat → Int} {n : Nat} {s : Nat → Value} {w : World} (h : S6 wr zb F n s w) : Below wr.heap.size wr w := by
  match n, h with
  | 0, h => exact h
  | 1, h => exact h.1
  | n + 2, h => exact h.1
theorem S6.on {wr : World} {zb : Nat} {F : Nat → Int} {n : Nat} {s : Nat → Value} {w w2 : World} (h : S6 wr zb F n s w) (hb : Below w.heap.size w w2) : S6 wr zb F n s w2 := by
  have hl := h.low
  have hb2 := hl.trans (hb.mono hl.size)
  match n, h with
  | 0, h => exact hb2
  | 1, h => exact ⟨hb2, owns_on h.2 hb⟩
  | n + 2, h => exact ⟨hb2, owns_on h.2 hb⟩

set_option maxHeartbeats 32000000 in
theorem rlay_ok {o s h r k z : Nat} {s5 : Int} {c : Cv} {av : Av} {w : World} (H : (⟨o, s, h, r, k⟩ : Sh).Ok) (hz : size ⟨o, s, h, r, k⟩ = z) (hS : Shows w c av) (hN : Nv w c av) (hB : Bnd c) (hL : Len c) :
    Calls Tryz.prog 6 #[.agg #[.int .i64 (o : Int), .int .i64 (s : Int), .int .i64 (h : Int), .int .i64 (r : Int), .int .i64 (k : Int), .int .i64 s5], vl c av] w fun e w' => ((e = .returned (.tuple #[.slice none 0 0, .int .i64 130]) ∧ ¬ (c.nr = h ∧ c.no = o ∧ Cq (cv ⟨o, s, h, r, k⟩ (lwF ⟨o, s, h, r, k⟩ c)) c)) ∨ (∃ g cap, e = .returned (.tuple #[.slice (some ⟨g, 0, none⟩) z cap, .int .i64 0]) ∧ z ≤ cap ∧ w.heap.size ≤ g ∧ Hid (w'.ownsRow w.heap.size 24 1 (.slice (some ⟨g, 0, none⟩) z cap) z (wcs z (lwF ⟨o, s, h, r, k⟩ c))) ∧ c.nr = h ∧ c.no = o ∧ Cq (cv ⟨o, s, h, r, k⟩ (lwF ⟨o, s, h, r, k⟩ c)) c)) ∧ Below w.heap.size w w' := by
  have CH := hide (fun w1 => rcheck_ok (s5 := s5) (r5 H) w1)
  have HH := hide H
  have HZ := hide hz
  have HS := hide hS
  have HN := hide hN
  have HBD := hide hB
  have HL := hide hL
  have hLO := hide (lay_out ⟨o, s, h, r, k⟩)
  have hz6 : z ≤ 600 := by rw [← hz]; exact (sizes H).2.2.2.2
  have hz8 : 8 ≤ z := by rw [← hz]; have := lay_out ⟨o, s, h, r, k⟩; simp only at this; omega
  have bo : o ≤ 64 := H.o2
  have bh : h ≤ 7 := H.h2
  clear H hz hS hN hB hL
  obtain ⟨F, hF⟩ : ∃ F, lwF ⟨o, s, h, r, k⟩ c = F := ⟨_, rfl⟩
  have HFF := hide hF
  have f4 : F 0 = mo c ∧ F 1 = hdV c.fr ∧ F 2 = hdV c.gr ∧ F 3 = hdV c.qu := by rw [← hF]; exact ⟨rfl, rfl, rfl, rfl⟩
  have HF4 := hide f4
  clear hF f4
  rw [show lwF ⟨o, s, h, r, k⟩ c = F from HFF.out]
  obtain ⟨W0, hW0, B0, K⟩ := box w (o : Int) (s : Int) (h : Int) (r : Int) (k : Int) s5
  have HB := hide B0
  have l0 : w.heap.size < W0.heap.size := (K.out W0 (Below.refl _ _)).2.1
  obtain ⟨W1, hW1, B1, R1⟩ := vbox W0 c av
  have B01 := hide B1
  have RV := hide R1
  have l1 : W0.heap.size < W1.heap.size := R1.lt
  have HW1 := hide (HB.out.trans (B01.out.mono HB.out.size))
  have SV := hide (fun (V : World) (hb : Below W1.heap.size W1 V) => HS.out.below (HW1.out.trans (hb.mono HW1.out.size)))
  have NV := hide (fun (V : World) (hb : Below W1.heap.size W1 V) => HN.out.below HS.out (HW1.out.trans (hb.mono HW1.out.size)))
  have RF := hide (fun (V : World) (hb : Below W1.heap.size W1 V) => rfit_ok (s5 := s5) HH.out (SV.out V hb) HL.out)
  clear B0 B1 R1
  obtain ⟨-, -, x0, x1, x2, x3, x4, x5⟩ := K.out _ (B01.out)
  simp only [vl] at RF ⊢
  by_cases FT : Fit ⟨o, s, h, r, k⟩ c
  rotate_left
  · have HF := hide FT
    clear FT
    go_enter Tryz.func6, Tryz.ntmps6
    go_upto_region 4 with (go_at_call 15; refine (CH.out _).mono ?_; rintro e w2 ⟨rfl, hb⟩; have HB2 := hide hb; clear hb)
    clear x0 x1 x2 x3 x4 x5
    obtain ⟨-, -, x0, x1, x2, x3, x4, x5⟩ := K.out _ ((B01.out.trans (HB2.out.mono B01.out.size)))
    have y0 := (row_on RV.out HB2.out).cell (i := 0) (by decide)
    have y1 := (row_on RV.out HB2.out).cell (i := 1) (by decide)
    have y2 := (row_on RV.out HB2.out).cell (i := 2) (by decide)
    have y3 := (row_on RV.out HB2.out).cell (i := 3) (by decide)
    have y4 := (row_on RV.out HB2.out).cell (i := 4) (by decide)
    have y5 := (row_on RV.out HB2.out).cell (i := 5) (by decide)
    have y6 := (row_on RV.out HB2.out).cell (i := 6) (by decide)
    have y7 := (row_on RV.out HB2.out).cell (i := 7) (by decide)
    have y8 := (row_on RV.out HB2.out).cell (i := 8) (by decide)
    have y9 := (row_on RV.out HB2.out).cell (i := 9) (by decide)
    have y10 := (row_on RV.out HB2.out).cell (i := 10) (by decide)
    have y11 := (row_on RV.out HB2.out).cell (i := 11) (by decide)
    have y12 := (row_on RV.out HB2.out).cell (i := 12) (by decide)
    have y13 := (row_on RV.out HB2.out).cell (i := 13) (by decide)
    simp only [lrow] at y0 y1 y2 y3 y4 y5 y6 y7 y8 y9 y10 y11 y12 y13
    go_wp2_with (go_at_call 16; refine (RF.out _ HB2.out).mono ?_; rintro e w3 ⟨ht, hb⟩; obtain rfl := ht.isnt HF.out; have HB3 := hide (HB2.out.trans (hb.mono HB2.out.size)); clear ht hb)
    exact bodyPost_ret (results_tmp2 (by rfl) _ _ _) rfl ⟨.inl ⟨rfl, fun p => HF.out (cq_fit HH.out HBD.out p.1 p.2.1 (by rw [HFF.out]; exact p.2.2)).1⟩, HW1.out.trans (HB3.out.mono HW1.out.size)⟩
  have HF := hide FT
  clear FT
  have hmo := hide (mo_fit HF.out.ph.1 HF.out.ph.2 HF.out.co HBD.out.ro HF.out.ro)
  have hfr := hide (fun (V : World) (hb : Below W1.heap.size W1 V) => rfirst_ok (cap := av.cf) (SV.out V hb).fr HL.out.fr)
  have hgr := hide (fun (V : World) (hb : Below W1.heap.size W1 V) => rfirst_ok (cap := av.cg) (SV.out V hb).gr HL.out.gr)
  have hqu := hide (fun (V : World) (hb : Below W1.heap.size W1 V) => rfirst_ok (cap := av.cq) (SV.out V hb).qu HL.out.qu)
  go_enter Tryz.func6, Tryz.ntmps6
  go_upto_region 4 with (go_at_call 15; refine (CH.out _).mono ?_; rintro e w2 ⟨rfl, hb⟩; have HB2 := hide hb; clear hb)
  clear x0 x1 x2 x3 x4 x5
  obtain ⟨-, -, x0, x1, x2, x3, x4, x5⟩ := K.out _ ((B01.out.trans (HB2.out.mono B01.out.size)))
  have y0 := (row_on RV.out HB2.out).cell (i := 0) (by decide)
  have y1 := (row_on RV.out HB2.out).cell (i := 1) (by decide)
  have y2 := (row_on RV.out HB2.out).cell (i := 2) (by decide)
  have y3 := (row_on RV.out HB2.out).cell (i := 3) (by decide)
  have y4 := (row_on RV.out HB2.out).cell (i := 4) (by decide)
  have y5 := (row_on RV.out HB2.out).cell (i := 5) (by decide)
  have y6 := (row_on RV.out HB2.out).cell (i := 6) (by decide)
  have y7 := (row_on RV.out HB2.out).cell (i := 7) (by decide)
  have y8 := (row_on RV.out HB2.out).cell (i := 8) (by decide)
  have y9 := (row_on RV.out HB2.out).cell (i := 9) (by decide)
  have y10 := (row_on RV.out HB2.out).cell (i := 10) (by decide)
  have y11 := (row_on RV.out HB2.out).cell (i := 11) (by decide)
  have y12 := (row_on RV.out HB2.out).cell (i := 12) (by decide)
  have y13 := (row_on RV.out HB2.out).cell (i := 13) (by decide)
  simp only [lrow] at y0 y1 y2 y3 y4 y5 y6 y7 y8 y9 y10 y11 y12 y13
  go_upto_region 6 with (go_at_call 16; refine (RF.out _ HB2.out).mono ?_; rintro e w3 ⟨ht, hb⟩; obtain rfl := ht.is HF.out; have HB3 := hide (HB2.out.trans (hb.mono HB2.out.size)); clear ht hb)
  clear x0 x1 x2 x3 x4 x5 y0 y1 y2 y3 y4 y5 y6 y7 y8 y9 y10 y11 y12 y13
  have LD := hide (fun (V : World) (hb : Below w3.heap.size w3 V) => row_on RV.out (HB3.out.trans (hb.mono HB3.out.size)))
  have l3 : W1.heap.size ≤ w3.heap.size := HB3.out.size
  refine LtH.region2 (ks := [(0, 25), (1, 26), (2, 27), (3, 28), (4, 29), (5, 30), (6, 31), (7, 32), (8, 33), (9, 34), (10, 35), (11, 36), (12, 37), (13, 38), (14, 39), (15, 40), (16, 41), (17, 42), (18, 43), (19, 44), (20, 45)]) (vals := fun iv => match iv with | 0 => .pointer (some ⟨W0.heap.size, 0, none⟩) | 1 => .int .i64 c.ph | 2 => .int .u64 (IntKind.u64.wrap c.ph) | 3 => .pointer (some ⟨W0.heap.size, 1, none⟩) | 4 => .int .i64 c.co | 5 => .int .u64 (IntKind.u64.wrap c.co) | 6 => .int .u64 (IntKind.u64.wrap (IntKind.u64.wrap c.co * 8)) | 7 => .int .u64 (IntKind.u64.wrap (IntKind.u64.wrap c.ph + IntKind.u64.wrap (IntKind.u64.wrap c.co * 8))) | 8 => .pointer (some ⟨W0.heap.size, 2, none⟩) | 9 => .int .u64 c.ro | 10 => .int .u64 (IntKind.u64.wrap (c.ro * 256)) | 11 => .int .u64 (mo c) | 12 => .pointer (some ⟨W0.heap.size, 7, none⟩) | 13 => .slice av.fa c.fr.length av.cf | 14 => .int .u64 (hdV c.fr) | 15 => .pointer (some ⟨W0.heap.size, 8, none⟩) | 16 => .slice av.ga c.gr.length av.cg | 17 => .int .u64 (hdV c.gr) | 18 => .pointer (some ⟨W0.heap.size, 9, none⟩) | 19 => .slice av.qa c.qu.length av.cq | 20 => .int .u64 (hdV c.qu) | _ => undef) (xs := [46, 7]) (WI := LtC.WI [21, 22] 21 20 (S6 w3 W1.heap.size F)) (by kernel_rfl) ?Agd ?Abk rfl ?Add ?Axx ?Alc ?Ast ?Ado ?Afi
  case Agd =>
    intro iq oq ho
    have hiq : iq < 23 := by have := (Array.getElem?_eq_some_iff.1 ho).1; simpa using this
    match iq, hiq with
    | 0, _ | 1, _ | 2, _ | 3, _ | 4, _ | 5, _ | 6, _ | 7, _ | 8, _ | 9, _ | 10, _ | 11, _ | 12, _ | 13, _ | 14, _ | 15, _ | 16, _ | 17, _ | 18, _ | 19, _ | 20, _ | 21, _ | 22, _ => injection ho with ho; subst ho; rfl
  case Abk =>
    intro iq oq ho
    have hiq : iq < 23 := by have := (Array.getElem?_eq_some_iff.1 ho).1; simpa using this
    match iq, hiq with
    | 0, _ | 1, _ | 2, _ | 3, _ | 4, _ | 5, _ | 6, _ | 7, _ | 8, _ | 9, _ | 10, _ | 11, _ | 12, _ | 13, _ | 14, _ | 15, _ | 16, _ | 17, _ | 18, _ | 19, _ | 20, _ | 21, _ | 22, _ => injection ho with ho; subst ho; simp [Region.binds]
  case Add =>
    intro kq hk
    have hk2 : kq < 122 := by
      simp [Lt.D] at hk
      omega
    exact hk2
  case Axx =>
    intro kq hk
    have hk2 : kq < 122 := by
      simp at hk
      omega
    exact hk2
  case Alc =>
    rintro L s1 s2 w1 hx ⟨⟨n1, h1, h2, h3⟩, h4⟩
    exact ⟨⟨n1, h1, h2, S6.local (hx 46 rfl) (hx 7 rfl) h3⟩, h4⟩
  case Ast => exact LtC.WI.start ⟨rfl, rfl, rfl, Nat.le_refl _, fun _ _ => rfl⟩
  case Ado =>
    intro iq oq ho
    have hiq : iq < 23 := by have := (Array.getElem?_eq_some_iff.1 ho).1; simpa using this
    match iq, hiq with
    | 0, _ => injection ho with ho; subst ho; exact LtC.read rfl rfl rfl (fun L a w' hI hL hq => Lt.ex_field rfl (hI.fix 3 (Lt.notD rfl) rfl) (by simp [go_sem]))
    | 1, _ => injection ho with ho; subst ho; exact LtC.read rfl rfl rfl (fun L a w' hI hL hq => Lt.ex_load rfl (hI.pure 0 _ _ rfl (hq ⟨0, .data⟩ (by simp) rfl)) (by simp [go_sem]) (by obtain ⟨n1, hn1⟩ := hI.world.any; exact (LD.out _ (S6.low hn1)).cell (i := 0) (by decide)))
    | 2, _ => injection ho with ho; subst ho; exact LtC.read rfl rfl rfl (fun L a w' hI hL hq => ex_cvt rfl (hI.pure 1 _ _ rfl (hq ⟨1, .data⟩ (by simp) rfl)))
    | 3, _ => injection ho with ho; subst ho; exact LtC.read rfl rfl rfl (fun L a w' hI hL hq => Lt.ex_field rfl (hI.fix 3 (Lt.notD rfl) rfl) (by simp [go_sem]))
    | 4, _ => injection ho with ho; subst ho; exact LtC.read rfl rfl rfl (fun L a w' hI hL hq => Lt.ex_load rfl (hI.pure 3 _ _ rfl (hq ⟨3, .data⟩ (by simp) rfl)) (by simp [go_sem]) (by obtain ⟨n1, hn1⟩ := hI.world.any; exact (LD.out _ (S6.low hn1)).cell (i := 1) (by decide)))
    | 5, _ => injection ho with ho; subst ho; exact LtC.read rfl rfl rfl (fun L a w' hI hL hq => ex_cvt rfl (hI.pure 4 _ _ rfl (hq ⟨4, .data⟩ (by simp) rfl)))
    | 6, _ => injection ho with ho; subst ho; exact LtC.read rfl rfl rfl (fun L a w' hI hL hq => ex_mulU rfl (hI.pure 5 _ _ rfl (hq ⟨5, .data⟩ (by simp) rfl)) rfl rfl)
    | 7, _ => injection ho with ho; subst ho; exact LtC.read rfl rfl rfl (fun L a w' hI hL hq => ex_addU rfl (hI.pure 2 _ _ rfl (hq ⟨2, .data⟩ (by simp) rfl)) (hI.pure 6 _ _ rfl (hq ⟨6, .data⟩ (by simp) rfl)) rfl)
    | 8, _ => injection ho with ho; subst ho; exact LtC.read rfl rfl rfl (fun L a w' hI hL hq => Lt.ex_field rfl (hI.fix 3 (Lt.notD rfl) rfl) (by simp [go_sem]))
    | 9, _ => injection ho with ho; subst ho; exact LtC.read rfl rfl rfl (fun L a w' hI hL hq => Lt.ex_load rfl (hI.pure 8 _ _ rfl (hq ⟨8, .data⟩ (by simp) rfl)) (by simp [go_sem]) (by obtain ⟨n1, hn1⟩ := hI.world.any; exact (LD.out _ (S6.low hn1)).cell (i := 2) (by decide)))
    | 10, _ => injection ho with ho; subst ho; exact LtC.read rfl rfl rfl (fun L a w' hI hL hq => ex_mulU rfl (hI.pure 9 _ _ rfl (hq ⟨9, .data⟩ (by simp) rfl)) rfl rfl)
    | 11, _ => injection ho with ho; subst ho; exact LtC.read rfl rfl rfl (fun L a w' hI hL hq => ex_addU rfl (hI.pure 7 _ _ rfl (hq ⟨7, .data⟩ (by simp) rfl)) (hI.pure 10 _ _ rfl (hq ⟨10, .data⟩ (by simp) rfl)) hmo.out)
    | 12, _ => injection ho with ho; subst ho; exact LtC.read rfl rfl rfl (fun L a w' hI hL hq => Lt.ex_field rfl (hI.fix 3 (Lt.notD rfl) rfl) (by simp [go_sem]))
    | 13, _ => injection ho with ho; subst ho; exact LtC.read rfl rfl rfl (fun L a w' hI hL hq => Lt.ex_load rfl (hI.pure 12 _ _ rfl (hq ⟨12, .data⟩ (by simp) rfl)) (by simp [go_sem]) (by obtain ⟨n1, hn1⟩ := hI.world.any; exact (LD.out _ (S6.low hn1)).cell (i := 7) (by decide)))
    | 14, _ => injection ho with ho; subst ho; exact LtC.callr (args := #[.slice av.fa c.fr.length av.cf]) rfl rfl rfl (fun L a w' hI hL hq => Lt.call1 rfl (hI.pure 13 _ _ rfl (hq ⟨13, .data⟩ (by simp) rfl)) rfl (by simp [go_sem])) (fun n1 s1 w1 hS1 => (hfr.out w1 (HB3.out.trans ((S6.low hS1).mono HB3.out.size))).mono (by rintro e w2 ⟨rfl, hb2⟩; exact ⟨rfl, hS1.on hb2⟩))
    | 15, _ => injection ho with ho; subst ho; exact LtC.read rfl rfl rfl (fun L a w' hI hL hq => Lt.ex_field rfl (hI.fix 3 (Lt.notD rfl) rfl) (by simp [go_sem]))
    | 16, _ => injection ho with ho; subst ho; exact LtC.read rfl rfl rfl (fun L a w' hI hL hq => Lt.ex_load rfl (hI.pure 15 _ _ rfl (hq ⟨15, .data⟩ (by simp) rfl)) (by simp [go_sem]) (by obtain ⟨n1, hn1⟩ := hI.world.any; exact (LD.out _ (S6.low hn1)).cell (i := 8) (by decide)))
    | 17, _ => injection ho with ho; subst ho; exact LtC.callr (args := #[.slice av.ga c.gr.length av.cg]) rfl rfl rfl (fun L a w' hI hL hq => Lt.call1 rfl (hI.pure 16 _ _ rfl (hq ⟨16, .data⟩ (by simp) rfl)) rfl (by simp [go_sem])) (fun n1 s1 w1 hS1 => (hgr.out w1 (HB3.out.trans ((S6.low hS1).mono HB3.out.size))).mono (by rintro e w2 ⟨rfl, hb2⟩; exact ⟨rfl, hS1.on hb2⟩))
    | 18, _ => injection ho with ho; subst ho; exact LtC.read rfl rfl rfl (fun L a w' hI hL hq => Lt.ex_field rfl (hI.fix 3 (Lt.notD rfl) rfl) (by simp [go_sem]))
    | 19, _ => injection ho with ho; subst ho; exact LtC.read rfl rfl rfl (fun L a w' hI hL hq => Lt.ex_load rfl (hI.pure 18 _ _ rfl (hq ⟨18, .data⟩ (by simp) rfl)) (by simp [go_sem]) (by obtain ⟨n1, hn1⟩ := hI.world.any; exact (LD.out _ (S6.low hn1)).cell (i := 9) (by decide)))
    | 20, _ => injection ho with ho; subst ho; exact LtC.callr (args := #[.slice av.qa c.qu.length av.cq]) rfl rfl rfl (fun L a w' hI hL hq => Lt.call1 rfl (hI.pure 19 _ _ rfl (hq ⟨19, .data⟩ (by simp) rfl)) rfl (by simp [go_sem])) (fun n1 s1 w1 hS1 => (hqu.out w1 (HB3.out.trans ((S6.low hS1).mono HB3.out.size))).mono (by rintro e w2 ⟨rfl, hb2⟩; exact ⟨rfl, hS1.on hb2⟩))
    | 21, _ => injection ho with ho; subst ho; exact LtC.link (m := 0) (by decide) rfl rfl rfl rfl (fun L hq e => hq ⟨20, .data⟩ (by simp) rfl) (fun L hq m1 j1 e1 _ => absurd e1 (by omega)) (fun L a w' Kq hI hq hS hk => Lt.wp_value (ex_bs4 rfl (hI.pure 11 _ _ rfl (hq ⟨11, .data⟩ (by simp) rfl)) (hI.pure 14 _ _ rfl (hq ⟨14, .data⟩ (by simp) rfl)) (hI.pure 17 _ _ rfl (hq ⟨17, .data⟩ (by simp) rfl)) (hI.pure 20 _ _ rfl (hq ⟨20, .data⟩ (by simp) rfl))) (hk _ _ ⟨Below.alloc hS hS.size _, by simp only [if_true]; have := lit4_owns w' (base := W1.heap.size) (by have := hS.size; omega) F; rw [HF4.out.1, HF4.out.2.1, HF4.out.2.2.1, HF4.out.2.2.2] at this; exact this⟩))
    | 22, _ => injection ho with ho; subst ho; exact LtC.link (m := 1) (by decide) rfl rfl rfl rfl (fun L _ e => absurd e (by decide)) (fun L hq m1 j1 e1 hj => by (cases (show m1 = 0 from (by omega))); cases hj; exact hq ⟨21, .data⟩ (by simp) rfl) (fun L a w' Kq hI hq hS hk => Lt.wp_value (Lt.ex_assign rfl rfl) (hk _ _ ⟨hS.1, by simpa using hS.2⟩))
  case Afi =>
    intro L a' w' hI hall
    have hdone := hI.world.done (fun i hi => hall i (by simp at hi ⊢; omega))
    obtain ⟨hb9, e7o⟩ := hdone
    have hfr2 := LtH.frame hI [25, 26, 27, 28, 29, 30, 31, 32, 33, 34, 35, 36, 37, 38, 39, 40, 41, 42, 43, 44, 45, 46, 7] rfl rfl (fun x hx => by simp at hx ⊢; omega)
    obtain ⟨t25, e25⟩ : ∃ t, a'.eval (.tmp 25) = t := ⟨_, rfl⟩
    obtain ⟨t26, e26⟩ : ∃ t, a'.eval (.tmp 26) = t := ⟨_, rfl⟩
    obtain ⟨t27, e27⟩ : ∃ t, a'.eval (.tmp 27) = t := ⟨_, rfl⟩
    obtain ⟨t28, e28⟩ : ∃ t, a'.eval (.tmp 28) = t := ⟨_, rfl⟩
    obtain ⟨t29, e29⟩ : ∃ t, a'.eval (.tmp 29) = t := ⟨_, rfl⟩
    obtain ⟨t30, e30⟩ : ∃ t, a'.eval (.tmp 30) = t := ⟨_, rfl⟩
    obtain ⟨t31, e31⟩ : ∃ t, a'.eval (.tmp 31) = t := ⟨_, rfl⟩
    obtain ⟨t32, e32⟩ : ∃ t, a'.eval (.tmp 32) = t := ⟨_, rfl⟩
    obtain ⟨t33, e33⟩ : ∃ t, a'.eval (.tmp 33) = t := ⟨_, rfl⟩
    obtain ⟨t34, e34⟩ : ∃ t, a'.eval (.tmp 34) = t := ⟨_, rfl⟩
    obtain ⟨t35, e35⟩ : ∃ t, a'.eval (.tmp 35) = t := ⟨_, rfl⟩
    obtain ⟨t36, e36⟩ : ∃ t, a'.eval (.tmp 36) = t := ⟨_, rfl⟩
    obtain ⟨t37, e37⟩ : ∃ t, a'.eval (.tmp 37) = t := ⟨_, rfl⟩
    obtain ⟨t38, e38⟩ : ∃ t, a'.eval (.tmp 38) = t := ⟨_, rfl⟩
    obtain ⟨t39, e39⟩ : ∃ t, a'.eval (.tmp 39) = t := ⟨_, rfl⟩
    obtain ⟨t40, e40⟩ : ∃ t, a'.eval (.tmp 40) = t := ⟨_, rfl⟩
    obtain ⟨t41, e41⟩ : ∃ t, a'.eval (.tmp 41) = t := ⟨_, rfl⟩
    obtain ⟨t42, e42⟩ : ∃ t, a'.eval (.tmp 42) = t := ⟨_, rfl⟩
    obtain ⟨t43, e43⟩ : ∃ t, a'.eval (.tmp 43) = t := ⟨_, rfl⟩
    obtain ⟨t44, e44⟩ : ∃ t, a'.eval (.tmp 44) = t := ⟨_, rfl⟩
    obtain ⟨t45, e45⟩ : ∃ t, a'.eval (.tmp 45) = t := ⟨_, rfl⟩
    obtain ⟨t46, e46⟩ : ∃ t, a'.eval (.tmp 46) = t := ⟨_, rfl⟩
    simp only at e7o
    obtain ⟨ad, cp, e7⟩ := own_slice e7o
    rw [e7] at e7o
    have HO4 := hide e7o
    rw [hfr2]
    simp only [LtH.lay, List.foldl, e25, e26, e27, e28, e29, e30, e31, e32, e33, e34, e35, e36, e37, e38, e39, e40, e41, e42, e43, e44, e45, e46, e7]
    have HB4 := hide (HB3.out.trans (hb9.mono HB3.out.size))
    clear hfr2 hI hall e25 e26 e27 e28 e29 e30 e31 e32 e33 e34 e35 e36 e37 e38 e39 e40 e41 e42 e43 e44 e45 e46 e7 hb9 e7o hW0 hW1 hmo hfr hgr hqu LD RF CH HF4
    simp only [Act.put, List.setIfInBounds_toArray, List.set_cons_succ, List.set_cons_zero]
    have l4 : W1.heap.size ≤ w'.heap.size := HB4.out.size
    go_wp2_with fail
    go_loopw [7, 8] (fun v i wr => ∃ (q cp : Nat) (ad : Option Addr), q ≤ 4 ∧ v = .slice ad (4 + q) cp ∧ i = .int .i64 q ∧ Hid (wr.ownsRow W1.heap.size 24 1 (.slice ad (4 + q) cp) (4 + q) (wcs (4 + q) F)) ∧ Hid (Below W1.heap.size W1 wr)) (fun _ i _ => 4 - (intOf i).toNat)
    case atStart => exact ⟨0, _, _, by omega, rfl, rfl, HO4.out, HB4.out⟩
    case round =>
      clear HO4 HB4 l4
      obtain ⟨q, cp, ad, hq, rfl, rfl, HO, HBr⟩ := hrel
      have lr : W1.heap.size ≤ wr.heap.size := HBr.out.size
      by_cases hlt : q < 4
      · have hqi : (q : Int) < 4 := by omega
        have hcc : wr.cell? ⟨W0.heap.size, 10 + q, none⟩ = some (.int .u64 (c.cn q)) := by
          have q4 := fun i hi => (row_on RV.out HBr.out).cell (i := i) hi
          match q, hlt with
          | 0, _ => exact q4 10 (by decide)
          | 1, _ => exact q4 11 (by decide)
          | 2, _ => exact q4 12 (by decide)
          | 3, _ => exact q4 13 (by decide)
        have hFq : c.cn q = F (4 + q) := by rw [← HFF.out]; exact (lw_cn (x := ⟨o, s, h, r, k⟩) (c := c) hlt).symm
        have HFq := hide hFq
        clear hFq
        go_wp2_with (at_builtin; refine app_words rfl (.tmp 51) (.tmp 56) rfl rfl (HO.out.alloc _) rfl (fun e => by cases e) (lit1_sees wr (c.cn q)) (fun i hi => by obtain rfl : i = 0 := (by omega); exact HFq.out) (by omega) (Nat.le_trans lr (by simp)) ?_; intro ad2 cp2 w5 hown hb5 _; have O5 := hide hown; have B5 := hide (((Below.refl _ wr).alloc lr _).trans hb5); clear hown hb5)
        go_roundw
        case rel => exact ⟨q + 1, cp2, ad2, by omega, rfl, by go_num, O5.out, HBr.out.trans B5.out⟩
        case measure => simp [intOf]; omega
      · obtain rfl : q = 4 := by omega
        have e8 : 4 + 4 = 8 := rfl
        simp only [e8] at HO
        obtain ⟨V4, hV4⟩ : ∃ V, V = wr := ⟨_, rfl⟩
        subst hV4
        have l4 := lr
        have HB4 := HBr
        have HO4 := HO
        clear HBr HO lr
        have y3 := (row_on RV.out HB4.out).cell (i := 3) (by decide)
        simp only [lrow] at y3
        have sA := hide (SV.out _ HB4.out).ac
        have nA := hide (show av.aa = none → c.na = 0 ∧ av.ca = 0 from fun e => ⟨by have := sA.out; rw [e] at this; exact sees_nil this, (NV.out _ HB4.out).ac e⟩)
        have na : c.na = h := HF.out.na
        have gA := hide (show ∀ i, i < c.na → c.ac i = F (8 + i) from fun i hi => by rw [← HFF.out, lw_ack (x := ⟨o, s, h, r, k⟩) (c := c) (by have := HF.out.na; omega), if_pos hi])
        rw [na] at y3 sA nA gA
        go_upto_region 12 with (at_builtin; refine app_words rfl (.tmp 58) (.tmp 60) rfl rfl HO4.out rfl nA.out sA.out gA.out (by omega) l4 ?_; intro ad5 cp5 w5 hown hb5 _; have O5 := hide hown; have HB5 := hide (HB4.out.trans hb5); clear hown hb5)
        clear HO4 HB4 l4 y3 sA nA gA na
        have l5 : W1.heap.size ≤ w5.heap.size := HB5.out.size
        have hbR : bR ⟨o, s, h, r, k⟩ = 8 + h := rfl
        have hbK : bK ⟨o, s, h, r, k⟩ = 8 + h + h * r := rfl
        have hbO : bO ⟨o, s, h, r, k⟩ = 8 + h + h * r + k := rfl
        have hsz : z = 8 + h + h * r + k + o * ow ⟨o, s, h, r, k⟩ := HZ.out.symm
        have how : ow ⟨o, s, h, r, k⟩ = 3 + s := rfl
        obtain ⟨-, -, x0, x1, x2, x3, x4, x5⟩ := K.out _ ((B01.out.trans (HB5.out.mono B01.out.size)))
        go_wp2_with fail
        clear x0 x1 x2 x3 x4 x5
        go_loopw [7, 9] (fun v i wr => ∃ (q cp : Nat) (ad : Option Addr), q ≤ h ∧ v = .slice ad (8 + h + q * r) cp ∧ i = .int .i64 q ∧ Hid (wr.ownsRow W1.heap.size 24 1 (.slice ad (8 + h + q * r) cp) (8 + h + q * r) (wcs (8 + h + q * r) F)) ∧ Hid (Below W1.heap.size W1 wr)) (fun _ i _ => h - (intOf i).toNat)
        case atStart => exact ⟨0, cp5, ad5, by omega, by rw [Nat.zero_mul, Nat.add_zero], rfl, by rw [Nat.zero_mul, Nat.add_zero]; exact O5.out, HB5.out⟩
        case round =>
          clear O5 HB5 l5
          obtain ⟨q, cp, ad, hq, rfl, rfl, HO, HBr⟩ := hrel
          have lr : W1.heap.size ≤ wr.heap.size := HBr.out.size
          obtain ⟨-, -, x0, x1, x2, x3, x4, x5⟩ := K.out _ ((B01.out.trans (HBr.out.mono B01.out.size)))
          have y4 := (row_on RV.out HBr.out).cell (i := 4) (by decide)
          simp only [lrow] at y4
          by_cases hlt : q < h
          · have hqi : (q : Int) < (h : Int) := by omega
            have hqn : (q : Int) < (c.nr : Int) := by have := HF.out.nr; simp only at this; omega
            obtain ⟨b, off, ai, ci, hra, hbl, hcc, hse⟩ := (SV.out _ HBr.out).rt q (by have := HF.out.nr; simp only at this; omega)
            have hni := (NV.out _ HBr.out).rt q (by have := HF.out.nr; simp only at this; omega) b off ai ci hra hcc
            rw [hra] at y4
            have hrn : c.rn q = r := HF.out.rn q hlt
            rw [hrn] at hcc hse
            have sA := hide hse
            have nA := hide (show ai = none → r = 0 ∧ ci = 0 from fun e => ⟨by have := sA.out; rw [e] at this; exact sees_nil this, hni e⟩)
            have gA := hide (show ∀ i, i < r → c.rt q i = F (8 + h + q * r + i) from fun i hi => by rw [← HFF.out]; have := lw_root (x := ⟨o, s, h, r, k⟩) (c := c) (j := q) (q := i) hlt hi; rw [if_pos (by rw [hrn]; exact hi)] at this; exact this.symm)
            have hle : 8 + h + q * r + r ≤ 600 := by
              have : (q + 1) * r ≤ h * r := Nat.mul_le_mul_right _ (by omega)
              rw [Nat.succ_mul] at this
              omega
            have HLE := hide hle
            have hrow : 8 + h + (q + 1) * r = 8 + h + q * r + r := by rw [Nat.succ_mul]; omega
            have HROW := hide hrow
            clear hse hni hrn hle hrow hra hbK hbO hsz
            obtain ⟨n8, hn8⟩ : ∃ n8, 8 + h + q * r = n8 := ⟨_, rfl⟩
            rw [hn8] at HO gA HLE HROW ⊢
            clear hn8
            go_wp2_with (at_builtin; refine app_words rfl (.tmp 68) (.tmp 73) rfl rfl HO.out rfl nA.out sA.out gA.out HLE.out lr ?_; intro ad5 cp5 w5 hown hb5 _; have O5 := hide hown; have B5 := hide hb5; clear hown hb5)
            go_roundw
            case rel => exact ⟨q + 1, cp5, ad5, by omega, by rw [HROW.out], by go_num, by rw [HROW.out]; exact O5.out, HBr.out.trans B5.out⟩
            case measure => simp [intOf]; omega
          · obtain rfl : q = h := by omega
            have hqi : ¬ (q : Int) < (q : Int) := by omega
            obtain ⟨V5, hV5⟩ : ∃ V, V = wr := ⟨_, rfl⟩
            subst hV5
            have l5 := lr
            have HB5 := HBr
            have HO5 := HO
            clear HBr HO lr y4
            have y5 := (row_on RV.out HB5.out).cell (i := 5) (by decide)
            simp only [lrow] at y5
            have sA := hide (SV.out _ HB5.out).wk
            have nA := hide (show av.wa = none → c.nw = 0 ∧ av.cw = 0 from fun e => ⟨by have := sA.out; rw [e] at this; exact sees_nil this, (NV.out _ HB5.out).wk e⟩)
            have na : c.nw = k := HF.out.nw
            have gA := hide (show ∀ i, i < c.nw → c.wk i = F (8 + q + q * r + i) from fun i hi => by rw [← HFF.out]; have := lw_weak (x := ⟨o, s, q, r, k⟩) (c := c) (i := i) (by have := HF.out.nw; simp only at this ⊢; omega); rw [if_pos hi] at this; exact this.symm)
            have HLE := hide (show 8 + q + q * r + k ≤ 600 by omega)
            rw [na] at y5 sA nA gA
            obtain ⟨n8, hn8⟩ : ∃ n8, 8 + q + q * r = n8 := ⟨_, rfl⟩
            rw [hn8] at HO5 gA HLE hbK hbO hsz ⊢
            clear hn8
            go_upto_region 17 with (at_builtin; refine app_words rfl (.tmp 75) (.tmp 77) rfl rfl HO5.out rfl nA.out sA.out gA.out HLE.out l5 ?_; intro ad6 cp6 w6 hown hb6 _; have O6 := hide hown; have HB6 := hide (HB5.out.trans hb6); clear hown hb6)
            clear HO5 HB5 l5 y5 sA nA gA na HLE x0 x1 x2 x3 x4 x5
            have l6 : W1.heap.size ≤ w6.heap.size := HB6.out.size
            obtain ⟨-, -, x0, x1, x2, x3, x4, x5⟩ := K.out _ ((B01.out.trans (HB6.out.mono B01.out.size)))
            obtain ⟨m8, hm8⟩ : ∃ m8, n8 + k = m8 := ⟨_, rfl⟩
            rw [hm8] at O6 hbO hsz ⊢
            go_wp2_with fail
            clear x0 x1 x2 x3 x4 x5
            go_loopw [7, 10] (fun v i wr => ∃ (j cp : Nat) (ad : Option Addr), j ≤ o ∧ v = .slice ad (m8 + j * (3 + s)) cp ∧ i = .int .i64 j ∧ Hid (wr.ownsRow W1.heap.size 24 1 (.slice ad (m8 + j * (3 + s)) cp) (m8 + j * (3 + s)) (wcs (m8 + j * (3 + s)) F)) ∧ Hid (Below W1.heap.size W1 wr)) (fun _ i _ => o - (intOf i).toNat)
            case atStart => exact ⟨0, cp6, ad6, by omega, by rw [Nat.zero_mul, Nat.add_zero], rfl, by rw [Nat.zero_mul, Nat.add_zero]; exact O6.out, HB6.out⟩
            case round =>
              clear O6 HB6 l6
              obtain ⟨j, cp, ad, hj, rfl, rfl, HO, HBr⟩ := hrel
              have lr : W1.heap.size ≤ wr.heap.size := HBr.out.size
              obtain ⟨-, -, x0, x1, x2, x3, x4, x5⟩ := K.out _ ((B01.out.trans (HBr.out.mono B01.out.size)))
              have y1 := (row_on RV.out HBr.out).cell (i := 1) (by decide)
              have y6 := (row_on RV.out HBr.out).cell (i := 6) (by decide)
              simp only [lrow] at y1 y6
              by_cases hlt : j < o
              · have hji : (j : Int) < (o : Int) := by omega
                have hjn : (j : Int) < (c.no : Int) := by have := HF.out.no; simp only at this; omega
                obtain ⟨b, off, ai, ci, hoa, hbl, hcc1, hse1⟩ := (SV.out W1 (Below.refl _ _)).ob j (by have := HF.out.no; simp only at this; omega)
                have hni := (NV.out W1 (Below.refl _ _)).ob j (by have := HF.out.no; simp only at this; omega) b off ai ci hoa (hcc1 8 (by decide))
                have hcc := fun p hp => (HBr.out.cell (p := ⟨b, off + j * 9 + p, none⟩) hbl).trans (hcc1 p hp)
                have hse := hse1.below HBr.out (Nat.le_refl _)
                clear hcc1 hse1
                have hns : (c.ob j).ns = s := HF.out.ns j hlt
                have hpo : pO ⟨o, s, q, r, k⟩ j = m8 + j * (3 + s) := by unfold pO; rw [hbO, how]
                have hwd := hide (fun i (hi : i < 3 + s) => (show lwF ⟨o, s, q, r, k⟩ c (pO ⟨o, s, q, r, k⟩ j + i) = obW ⟨o, s, q, r, k⟩ c j i from lw_obj (by rw [how]; exact hi)))
                rw [hpo, HFF.out] at hwd
                rcases hob : c.ob j with ⟨us, li, fi, ta, ag, ge, lk, nx, ns, sl⟩
                rw [hob] at hcc hse hns
                simp only at hns hse
                subst hns
                obtain ⟨p0, p1, p2, p3, p4, p5, p6, p7, p8⟩ := obs9 hcc
                simp only at p0 p1 p2 p3 p4 p5 p6 p7 p8
                rw [hoa] at y6
                have HSE := hide hse
                have NIL := hide (show ai = none → ns = 0 ∧ ci = 0 from fun e => ⟨by have := HSE.out; rw [e] at this; exact sees_nil this, hni e⟩)
                have hbd := HBD.out.ob j (by have := HF.out.no; simp only at this; omega)
                rw [hob] at hbd
                have hge : 0 ≤ ge := hbd.1
                have g0 := hwd.out 0 (by omega)
                have g1 := hwd.out 1 (by omega)
                have g2 := hwd.out 2 (by omega)
                have g3 := hide (show ∀ i, i < ns → sl i = F (m8 + j * (3 + ns) + 3 + i) from fun i hi => by
                  have := hwd.out (3 + i) (by omega)
                  rw [← Nat.add_assoc] at this
                  rw [this]
                  unfold obW
                  rw [if_neg (by omega), if_neg (by omega), if_neg (by omega), hob, if_pos (by simp only; omega)]
                  simp)
                simp only [obW, hob] at g0 g1 g2
                simp at g0 g1 g2
                have PKC := hide (fun w1 => pack_ref us li fi ta ag ge lk nx (.slice ai ns ci) c.co hge w1)
                have HOB := hide hob
                have hle : m8 + j * (3 + ns) + 3 + ns ≤ 600 := by
                  have : (j + 1) * (3 + ns) ≤ o * (3 + ns) := Nat.mul_le_mul_right _ (by omega)
                  rw [Nat.succ_mul] at this
                  rw [how] at hsz
                  omega
                have HLE := hide hle
                have hrow : m8 + (j + 1) * (3 + ns) = m8 + j * (3 + ns) + 3 + ns := by rw [Nat.succ_mul]; omega
                have HROW := hide hrow
                clear hse hni hcc hoa hob hbd hge hle hrow hwd hpo hsz hbK hbO how hm8 hbR
                obtain ⟨n9, hn9⟩ : ∃ n9, m8 + j * (3 + ns) = n9 := ⟨_, rfl⟩
                rw [hn9] at HO g0 g1 g2 g3 HLE HROW ⊢
                clear hn9
                have G012 := hide (And.intro g0 (And.intro g1 g2))
                clear g0 g1 g2
                go_upto_region 21 with (fail)
                obtain ⟨WX, hWX⟩ : ∃ W, wr.alloc (.cells #[.bool us, .bool li, .bool fi, .bool ta, .int .i64 ag, .int .u64 ge, .int .u64 lk, .int .u64 nx, .slice ai ns ci] 46) = W := ⟨_, rfl⟩
                have RX := hide (show WX.rowIs wr.heap.size 46 9 (lrow [.bool us, .bool li, .bool fi, .bool ta, .int .i64 ag, .int .u64 ge, .int .u64 lk, .int .u64 nx, .slice ai ns ci]) by rw [← hWX]; exact rowL_alloc wr [.bool us, .bool li, .bool fi, .bool ta, .int .i64 ag, .int .u64 ge, .int .u64 lk, .int .u64 nx, .slice ai ns ci] _ rfl)
                have bx : Below wr.heap.size wr WX := by rw [← hWX]; exact (Below.refl _ _).alloc (Nat.le_refl _) _
                have BX := hide bx
                have lx : wr.heap.size < WX.heap.size := RX.out.lt
                have HBX := hide (HBr.out.trans (bx.mono lr))
                try simp only [hWX]
                clear hWX bx x0 x1 x2 x3 x4 x5 y1 y6 p0 p1 p2 p3 p4 p5 p6 p7 p8
                have y1 := (row_on RV.out HBX.out).cell (i := 1) (by decide)
                simp only [lrow] at y1
                have u0 := RX.out.cell (i := 0) (by decide)
                have u1 := RX.out.cell (i := 1) (by decide)
                have u2 := RX.out.cell (i := 2) (by decide)
                have u3 := RX.out.cell (i := 3) (by decide)
                have u4 := RX.out.cell (i := 4) (by decide)
                have u5 := RX.out.cell (i := 5) (by decide)
                have u6 := RX.out.cell (i := 6) (by decide)
                have u7 := RX.out.cell (i := 7) (by decide)
                have u8 := RX.out.cell (i := 8) (by decide)
                simp only [lrow] at u0 u1 u2 u3 u4 u5 u6 u7 u8
                by_cases hpk : packB ag ge c.co = true
                rotate_left
                · have hE : packE ag ge c.co = 10 := by simp [packE, hpk]
                  rw [hE] at PKC
                  have HPK := hide hpk
                  clear hpk hE
                  go_wp2_with (go_at_call 18; refine (PKC.out _).mono ?_; rintro e w7 ⟨rfl, hb⟩; have HB7 := hide hb; clear hb)
                  exact bodyPost_ret (results_tmp2 (by rfl) _ _ _) rfl ⟨.inl ⟨rfl, fun p => HPK.out (by have := (cq_fit HH.out HBD.out p.1 p.2.1 (by rw [HFF.out]; exact p.2.2)).2 j hlt; rw [HOB.out] at this; exact this)⟩, HW1.out.trans ((HBX.out.trans (HB7.out.mono (by omega))).mono HW1.out.size)⟩
                have hE : packE ag ge c.co = 0 := by simp [packE, hpk]
                rw [hE] at PKC
                clear hpk hE
                go_upto_region 24 with (go_at_call 18; refine (PKC.out _).mono ?_; rintro e w7 ⟨rfl, hb⟩; have HB7 := hide hb; clear hb)
                have RX7 := hide (row_on RX.out HB7.out)
                have s7 : WX.heap.size ≤ w7.heap.size := HB7.out.size
                have B7 := hide (show Below W1.heap.size wr w7 from (BX.out.mono lr).trans (HB7.out.mono (by omega)))
                have O7 := hide (owns_on HO.out (show Below wr.heap.size wr w7 from BX.out.trans (HB7.out.mono (by omega))))
                clear u0 u1 u2 u3 u4 u5 u6 u7 u8 y1
                have u6 := RX7.out.cell (i := 6) (by decide)
                have u7 := RX7.out.cell (i := 7) (by decide)
                have u8 := RX7.out.cell (i := 8) (by decide)
                simp only [lrow] at u6 u7 u8
                obtain ⟨pv, hpv⟩ : ∃ pv, packV us li fi ta ag ge c.co = pv := ⟨_, rfl⟩
                rw [hpv] at G012
                try simp only [hpv]
                clear hpv
                go_upto_region 25 with (at_builtin; refine app_words rfl (.tmp 99) (.tmp 105) rfl rfl (O7.out.alloc _) rfl (fun e => by cases e) (lit3_sees w7 pv lk nx) (fun i hi => by obtain rfl | rfl | rfl : i = 0 ∨ i = 1 ∨ i = 2 := (by omega); exact G012.out.1.symm; exact G012.out.2.1.symm; exact G012.out.2.2.symm) (by have := HLE.out; omega) (by simp; omega) ?_; intro ad8 cp8 w8 hown hb8 hk8; have O8 := hide hown; have B8 := hide (show Below W1.heap.size w7 w8 from ((Below.refl _ w7).alloc (by omega) _).trans hb8); have R8 := hide (show w8.rowIs wr.heap.size 46 9 (lrow [.bool us, .bool li, .bool fi, .bool ta, .int .i64 ag, .int .u64 ge, .int .u64 lk, .int .u64 nx, .slice ai ns ci]) from (row_on RX7.out ((Below.refl _ w7).alloc (Nat.le_refl _) _)).of_block (hk8 _ (by simp; omega) (fun e => by have := (HO.out.lt _ e).2; omega))); clear hown hb8 hk8)
                clear u6 u7 u8
                have u8 := R8.out.cell (i := 8) (by decide)
                simp only [lrow] at u8
                have SX := hide (show Sees w8 w8.heap.size ai ns sl from (HSE.out.below (B7.out.trans B8.out) (Nat.le_refl _)).mono (by have := B7.out.size; have := B8.out.size; omega))
                go_wp2_with (at_builtin; refine app_words rfl (.tmp 107) (.tmp 109) rfl rfl O8.out rfl NIL.out SX.out g3.out (by have := HLE.out; omega) (by have := B8.out.size; omega) ?_; intro ad9 cp9 w9 hown hb9 _; have O9 := hide hown; have B9 := hide hb9; clear hown hb9)
                go_roundw
                case rel => exact ⟨j + 1, cp9, ad9, by omega, by rw [HROW.out], by go_num, by rw [HROW.out]; exact O9.out, HBr.out.trans (B7.out.trans (B8.out.trans B9.out))⟩
                case measure => simp [intOf]; omega
              · obtain rfl : j = o := by omega
                have hji : ¬ (j : Int) < (j : Int) := by omega
                have hzz : m8 + j * (3 + s) = z := by rw [how] at hsz; omega
                rw [hzz] at HO
                try simp only [hzz]
                clear hzz hsz hbK hbO hbR how hm8
                obtain ⟨g, had, hgl, hgu, -, -⟩ := owns_cell HO.out (i := 0) (u := .int .u64 (F 0)) (wcs_get F (by omega))
                subst had
                have hzc := own_cap HO.out
                have FB := hide (lw_bnd HH.out HBD.out HF.out.nr HF.out.no)
                rw [HZ.out, HFF.out] at FB
                have LK := hide (rlook_ok (s5 := s5) HH.out HZ.out hzc wr (owns_sees HO.out) (Nat.le_refl _) FB.out)
                have LC := hide (len_cv HH.out (f := F) (by rw [HZ.out]; exact FB.out))
                obtain ⟨d, hd⟩ : ∃ d, cv ⟨j, s, q, r, k⟩ F = d := ⟨_, rfl⟩
                rw [hd] at LK LC
                have HD := hide hd
                clear hd y1 y6
                simp only [vl] at LK
                go_upto_region 27 with (go_at_call 19; refine LK.out.mono ?_; rintro e w10 ⟨⟨a10, rfl, HO10⟩, hb⟩; have HB10 := hide hb; have h910 := hb.size; clear hb)
                clear x0 x1 x2 x3 x4 x5 LK
                obtain ⟨W10, hW10⟩ : ∃ W, w10.alloc (.cells #[.int .i64 d.ph, .int .i64 d.co, .int .u64 d.ro, .slice a10.aa d.na a10.ca, .slice a10.ra d.nr a10.cr, .slice a10.wa d.nw a10.cw, .slice a10.oa d.no a10.cb, .slice a10.fa d.fr.length a10.cf, .slice a10.ga d.gr.length a10.cg, .slice a10.qa d.qu.length a10.cq, .int .u64 (d.cn 0), .int .u64 (d.cn 1), .int .u64 (d.cn 2), .int .u64 (d.cn 3)] 31) = W := ⟨_, rfl⟩
                have R10 := hide (show W10.rowIs w10.heap.size 31 14 (lrow [.int .i64 d.ph, .int .i64 d.co, .int .u64 d.ro, .slice a10.aa d.na a10.ca, .slice a10.ra d.nr a10.cr, .slice a10.wa d.nw a10.cw, .slice a10.oa d.no a10.cb, .slice a10.fa d.fr.length a10.cf, .slice a10.ga d.gr.length a10.cg, .slice a10.qa d.qu.length a10.cq, .int .u64 (d.cn 0), .int .u64 (d.cn 1), .int .u64 (d.cn 2), .int .u64 (d.cn 3)]) by rw [← hW10]; exact rowL_alloc w10 [.int .i64 d.ph, .int .i64 d.co, .int .u64 d.ro, .slice a10.aa d.na a10.ca, .slice a10.ra d.nr a10.cr, .slice a10.wa d.nw a10.cw, .slice a10.oa d.no a10.cb, .slice a10.fa d.fr.length a10.cf, .slice a10.ga d.gr.length a10.cg, .slice a10.qa d.qu.length a10.cq, .int .u64 (d.cn 0), .int .u64 (d.cn 1), .int .u64 (d.cn 2), .int .u64 (d.cn 3)] _ rfl)
                have hba : Below w10.heap.size w10 W10 := by rw [← hW10]; exact (Below.refl _ _).alloc (Nat.le_refl _) _
                have S10 := hide (HO10.out.shows.below hba)
                have HB10 := hide (HB10.out.trans (hba.mono HB10.out.size))
                have l10 : w10.heap.size < W10.heap.size := R10.out.lt
                have HBW := hide (HBr.out.trans (HB10.out.mono lr))
                have OW := hide (owns_on HO.out HB10.out)
                try simp only [hW10]
                clear hW10 hba HO10
                have u0 := R10.out.cell (i := 0) (by decide)
                have u1 := R10.out.cell (i := 1) (by decide)
                have u2 := R10.out.cell (i := 2) (by decide)
                have u3 := R10.out.cell (i := 3) (by decide)
                have u4 := R10.out.cell (i := 4) (by decide)
                have u5 := R10.out.cell (i := 5) (by decide)
                have u6 := R10.out.cell (i := 6) (by decide)
                have u7 := R10.out.cell (i := 7) (by decide)
                have u8 := R10.out.cell (i := 8) (by decide)
                have u9 := R10.out.cell (i := 9) (by decide)
                have u10 := R10.out.cell (i := 10) (by decide)
                have u11 := R10.out.cell (i := 11) (by decide)
                have u12 := R10.out.cell (i := 12) (by decide)
                have u13 := R10.out.cell (i := 13) (by decide)
                simp only [lrow] at u0 u1 u2 u3 u4 u5 u6 u7 u8 u9 u10 u11 u12 u13
                have y0 := (row_on RV.out HBW.out).cell (i := 0) (by decide)
                have y1 := (row_on RV.out HBW.out).cell (i := 1) (by decide)
                have y2 := (row_on RV.out HBW.out).cell (i := 2) (by decide)
                have y3 := (row_on RV.out HBW.out).cell (i := 3) (by decide)
                have y4 := (row_on RV.out HBW.out).cell (i := 4) (by decide)
                have y5 := (row_on RV.out HBW.out).cell (i := 5) (by decide)
                have y6 := (row_on RV.out HBW.out).cell (i := 6) (by decide)
                have y7 := (row_on RV.out HBW.out).cell (i := 7) (by decide)
                have y8 := (row_on RV.out HBW.out).cell (i := 8) (by decide)
                have y9 := (row_on RV.out HBW.out).cell (i := 9) (by decide)
                have y10 := (row_on RV.out HBW.out).cell (i := 10) (by decide)
                have y11 := (row_on RV.out HBW.out).cell (i := 11) (by decide)
                have y12 := (row_on RV.out HBW.out).cell (i := 12) (by decide)
                have y13 := (row_on RV.out HBW.out).cell (i := 13) (by decide)
                simp only [lrow] at y0 y1 y2 y3 y4 y5 y6 y7 y8 y9 y10 y11 y12 y13
                have SM := hide (sameG S10.out (SV.out _ HBW.out) LC.out HL.out)
                simp only [vl] at SM
                by_cases hq2 : Cq d c
                · have HQ := hide hq2
                  clear hq2
                  go_wp2_with (go_at_call 20; refine SM.out.mono ?_; rintro e w11 ⟨ht, hb⟩; obtain rfl := ht.is HQ.out; have HB11 := hide hb; clear ht hb)
                  exact bodyPost_ret (results_tmp2 (by rfl) _ _ _) rfl ⟨.inr ⟨g, cp, rfl, hzc, by have := HW1.out.size; omega, hide (owns_low (owns_on OW.out HB11.out) HW1.out.size), HF.out.nr, HF.out.no, by rw [HD.out]; exact HQ.out⟩, HW1.out.trans ((HBW.out.trans (HB11.out.mono (by have := HBW.out.size; omega))).mono HW1.out.size)⟩
                · have HQ := hide hq2
                  clear hq2
                  go_wp2_with (go_at_call 20; refine SM.out.mono ?_; rintro e w11 ⟨ht, hb⟩; obtain rfl := ht.isnt HQ.out; have HB11 := hide hb; clear ht hb)
                  exact bodyPost_ret (results_tmp2 (by rfl) _ _ _) rfl ⟨.inl ⟨rfl, fun p => HQ.out (by have := p.2.2; rw [HD.out] at this; exact this)⟩, HW1.out.trans ((HBW.out.trans (HB11.out.mono (by have := HBW.out.size; omega))).mono HW1.out.size)⟩
end Vw
end Go.Proofs.YtecjegjnnahddaaGreat
