/-
  Lemmas: VwLf.
-/
import Derived.Test.YtecjegjnnahddaaGreatTp31
import Derived.Test.YtecjegjnnahddaaGreatTp15
import Derived.Test.YtecjegjnnahddaaGreatTp16
import Derived.Test.YtecjegjnnahddaaGreatTp11
import Derived.Test.YtecjegjnnahddaaGreatTp18
import Derived.Test.YtecjegjnnahddaaGreatTp10
/-
  View: the package's Lay
-/
namespace Go.Proofs.YtecjegjnnahddaaGreat
open Go.RowKit
set_option linter.unusedVariables false
set_option linter.unusedSimpArgs false
set_option linter.unnecessarySimpa false
set_option maxRecDepth 20000
namespace Vw
open Shape

theorem wr_made (w : World) (z : Nat) : Wr (w.alloc (.cells (madeCells #[.int .u64 0] z) 24)) w.heap.size z (fun _ => 0) := by
  unfold Wr
  have e : madeCells #[.int .u64 0] z = (wcs z (fun _ => 0)).toArray := by
    apply Array.ext'
    rw [toList_madeCells_one]
    exact List.ext_getElem (by simp [wcs]) (fun i h1 h2 => by simp [wcs])
  rw [e]
  show (w.heap.push _)[w.heap.size]? = _
  simp
theorem Wr.drewn {w : World} {g z : Nat} {F : Nat → Int} (h : Wr w g z F) : Wr w.drew g z F := h
theorem bel_drew {n : Nat} {w w' : World} (h : Below n w w') : Below n w w'.drew := h.trans ⟨rfl, rfl, rfl, Nat.le_refl _, fun _ _ => rfl⟩
theorem len_cv {x : Sh} {f : Nat → Int} (H : x.Ok) (hf : ∀ i, i < size x → 0 ≤ f i ∧ f i < 18446744073709551616) : Len (cv x f) := by
  have K := cv_ok H hf
  refine ⟨?_, Nat.le_trans K.nr (by decide), fun j hj => Nat.le_trans (K.rn j hj) (by decide), Nat.le_trans K.nw (by decide), Nat.le_trans K.no (by decide), fun j hj => Nat.le_trans (K.ns j hj) (by decide), Nat.le_trans K.fr (by decide), Nat.le_trans K.gr (by decide), Nat.le_trans K.qu (by decide)⟩
  have := H.h2
  show x.h ≤ _
  omega

/-- The words are looked at and compared, in a region. -/
def LW (w3 : World) (d : Cv) (x1 x3 x4 : Nat) (P : Prop) (b1 b3 b4 : Bool) (s : Nat → Value) (w : World) : Prop :=
  Below w3.heap.size w3 w ∧ (b1 = true → ∃ a, s x1 = vl d a ∧ Shows w d a) ∧ (b3 = true → ∃ b, s x3 = .bool b ∧ (b = true ↔ P)) ∧ (b4 = true → ∃ b, s x4 = .bool b ∧ (b = true ↔ ¬ P))
theorem LW.up {w3 w : World} {d : Cv} {P : Prop} {L : Nat → Bool} {s : Nat → Value} (i : Nat) (h1 : ¬ i = 1) (h3 : ¬ i = 3) (h4 : ¬ i = 4) (h : LW w3 d 39 41 42 P (L 1) (L 3) (L 4) s w) : LW w3 d 39 41 42 P (Lt.up L i 1) (Lt.up L i 3) (Lt.up L i 4) s w := by
  rw [Lt.up_other L (fun e => h1 e.symm), Lt.up_other L (fun e => h3 e.symm), Lt.up_other L (fun e => h4 e.symm)]; exact h
theorem LW.c1 {w3 w w2 : World} {d : Cv} {P : Prop} {L : Nat → Bool} {s : Nat → Value} {a : Av} (h : LW w3 d 39 41 42 P (L 1) (L 3) (L 4) s w) (hb : Below w.heap.size w w2) (ha : Shows w2 d a) : LW w3 d 39 41 42 P (Lt.up L 1 1) (Lt.up L 1 3) (Lt.up L 1 4) (fun q => if q = 39 then vl d a else s q) w2 := by
  rw [show Lt.up L 1 3 = L 3 from Lt.up_other L (by decide), show Lt.up L 1 4 = L 4 from Lt.up_other L (by decide)]
  exact ⟨h.1.trans (hb.mono h.1.size), fun _ => ⟨a, by simp, ha⟩, fun e => by simpa using h.2.2.1 e, fun e => by simpa using h.2.2.2 e⟩
theorem LW.c3 {w3 w w2 : World} {d : Cv} {P : Prop} {L : Nat → Bool} {s : Nat → Value} {b : Bool} (h : LW w3 d 39 41 42 P (L 1) (L 3) (L 4) s w) (hb : Below w.heap.size w w2) (hv : b = true ↔ P) : LW w3 d 39 41 42 P (Lt.up L 3 1) (Lt.up L 3 3) (Lt.up L 3 4) (fun q => if q = 41 then .bool b else s q) w2 := by
  rw [show Lt.up L 3 1 = L 1 from Lt.up_other L (by decide), show Lt.up L 3 4 = L 4 from Lt.up_other L (by decide)]
  exact ⟨h.1.trans (hb.mono h.1.size), fun e => by obtain ⟨a, e1, h1⟩ := h.2.1 e; exact ⟨a, by simpa using e1, h1.below hb⟩, fun _ => ⟨b, by simp, hv⟩, fun e => by simpa using h.2.2.2 e⟩
theorem LW.c4 {w3 w : World} {d : Cv} {P : Prop} {L : Nat → Bool} {s : Nat → Value} {b : Bool} (h : LW w3 d 39 41 42 P (L 1) (L 3) (L 4) s w) (hv : b = true ↔ P) : LW w3 d 39 41 42 P (Lt.up L 4 1) (Lt.up L 4 3) (Lt.up L 4 4) (fun q => if q = 42 then .bool (!b) else s q) w := by
  rw [show Lt.up L 4 1 = L 1 from Lt.up_other L (by decide), show Lt.up L 4 3 = L 3 from Lt.up_other L (by decide)]
  exact ⟨h.1, fun e => by simpa using h.2.1 e, fun e => by simpa using h.2.2.1 e, fun _ => ⟨!b, by simp, by cases b <;> simp_all⟩⟩
theorem LW.local {w3 w : World} {d : Cv} {P : Prop} {b1 b3 b4 : Bool} {s s' : Nat → Value} (h1 : s 39 = s' 39) (h3 : s 41 = s' 41) (h4 : s 42 = s' 42) (h : LW w3 d 39 41 42 P b1 b3 b4 s w) : LW w3 d 39 41 42 P b1 b3 b4 s' w := by
  unfold LW at *
  rw [← h1, ← h3, ← h4]
  exact h

set_option maxHeartbeats 16000000 in
theorem vlay_ok {w : World} {o s h r k z : Nat} {s5 : Int} {c : Cv} {a : Av} (H : (⟨o, s, h, r, k⟩ : Sh).Ok) (hz : size ⟨o, s, h, r, k⟩ = z) (hS : Shows w c a) (hB : Bnd c) (hL : Len c) :
    Calls Tryz.prog 7 #[.agg #[.int .i64 (o : Int), .int .i64 (s : Int), .int .i64 (h : Int), .int .i64 (r : Int), .int .i64 (k : Int), .int .i64 s5], vl c a] w fun e w' => ((e = .returned (.tuple #[.slice none 0 0, .int .i64 130]) ∧ ¬ (c.nr = h ∧ c.no = o ∧ Cq (cv ⟨o, s, h, r, k⟩ (lwF ⟨o, s, h, r, k⟩ c)) c)) ∨ (∃ g cap, e = .returned (.tuple #[.slice (some ⟨g, 0, none⟩) z cap, .int .i64 0]) ∧ z ≤ cap ∧ w.heap.size ≤ g ∧ Hid (Wr w' g z (lwF ⟨o, s, h, r, k⟩ c)) ∧ c.nr = h ∧ c.no = o ∧ Cq (cv ⟨o, s, h, r, k⟩ (lwF ⟨o, s, h, r, k⟩ c)) c)) ∧ Below w.heap.size w w' := by
  have HSV := hide hS
  have HB := hide hB
  have HL := hide hL
  have hz6 : z ≤ 600 := by rw [← hz]; exact (sizes H).2.2.2.2
  have SZ := hide (fun w1 => size_ok (s5 := s5) H w1)
  rw [hz] at SZ
  obtain ⟨W1, hW1⟩ : ∃ W, (w.alloc (.cells #[.int .i64 (o : Int), .int .i64 (s : Int), .int .i64 (h : Int), .int .i64 (r : Int), .int .i64 (k : Int), .int .i64 s5] 23)).alloc (.cells #[.int .i64 c.ph, .int .i64 c.co, .int .u64 c.ro, .slice a.aa c.na a.ca, .slice a.ra c.nr a.cr, .slice a.wa c.nw a.cw, .slice a.oa c.no a.cb, .slice a.fa c.fr.length a.cf, .slice a.ga c.gr.length a.cg, .slice a.qa c.qu.length a.cq, .int .u64 (c.cn 0), .int .u64 (c.cn 1), .int .u64 (c.cn 2), .int .u64 (c.cn 3)] 31) = W := ⟨_, rfl⟩
  have RM := hide (show W1.rowIs w.heap.size 23 6 (lrow [.int .i64 (o : Int), .int .i64 (s : Int), .int .i64 (h : Int), .int .i64 (r : Int), .int .i64 (k : Int), .int .i64 s5]) by rw [← hW1]; exact (rowL_alloc w [.int .i64 (o : Int), .int .i64 (s : Int), .int .i64 (h : Int), .int .i64 (r : Int), .int .i64 (k : Int), .int .i64 s5] _ rfl).alloc _)
  have RV := hide (show W1.rowIs (w.heap.size + 1) 31 14 (lrow [.int .i64 c.ph, .int .i64 c.co, .int .u64 c.ro, .slice a.aa c.na a.ca, .slice a.ra c.nr a.cr, .slice a.wa c.nw a.cw, .slice a.oa c.no a.cb, .slice a.fa c.fr.length a.cf, .slice a.ga c.gr.length a.cg, .slice a.qa c.qu.length a.cq, .int .u64 (c.cn 0), .int .u64 (c.cn 1), .int .u64 (c.cn 2), .int .u64 (c.cn 3)]) by rw [← hW1]; have := rowL_alloc (w.alloc (.cells #[.int .i64 (o : Int), .int .i64 (s : Int), .int .i64 (h : Int), .int .i64 (r : Int), .int .i64 (k : Int), .int .i64 s5] 23)) [.int .i64 c.ph, .int .i64 c.co, .int .u64 c.ro, .slice a.aa c.na a.ca, .slice a.ra c.nr a.cr, .slice a.wa c.nw a.cw, .slice a.oa c.no a.cb, .slice a.fa c.fr.length a.cf, .slice a.ga c.gr.length a.cg, .slice a.qa c.qu.length a.cq, .int .u64 (c.cn 0), .int .u64 (c.cn 1), .int .u64 (c.cn 2), .int .u64 (c.cn 3)] 31 (n := 14) rfl; simpa using this)
  have sz1 : W1.heap.size = w.heap.size + 2 := by rw [← hW1]; simp
  have HB1 := hide (show Below w.heap.size w W1 by rw [← hW1]; exact ((Below.refl _ w).alloc (Nat.le_refl _) _).alloc (by simp) _)
  clear hS hB hL
  obtain ⟨sb, hsb⟩ : ∃ sb, w.heap.size = sb := ⟨_, rfl⟩
  obtain ⟨vb, hvb⟩ : ∃ vb, sb + 1 = vb := ⟨_, rfl⟩
  have z0 := RM.out.cell (i := 0) (by decide)
  have z1 := RM.out.cell (i := 1) (by decide)
  have z2 := RM.out.cell (i := 2) (by decide)
  have z3 := RM.out.cell (i := 3) (by decide)
  have z4 := RM.out.cell (i := 4) (by decide)
  have z5 := RM.out.cell (i := 5) (by decide)
  simp only [lrow] at z0 z1 z2 z3 z4 z5
  simp only [vl]
  go_enter Tryz.func7, Tryz.ntmps7
  go_upto_region 1 with (fail)
  try simp only [hW1]
  try simp only [hsb]
  try simp only [hvb]
  rw [hsb, hvb] at RV
  rw [hsb] at RM z0 z1 z2 z3 z4 z5
  go_upto_region 4 with (go_at_call 21; refine (SZ.out _).mono ?_; rintro e w1 ⟨rfl, hb1⟩; have HB2 := hide hb1; clear hb1; clear z0 z1 z2 z3 z4 z5)
  have RM2 := hide (show w1.rowIs sb _ 6 _ from row_on RM.out HB2.out)
  have RV2 := hide (show w1.rowIs vb _ 14 _ from row_on RV.out HB2.out)
  have BW1 := hide (show Below w.heap.size w w1 from HB1.out.trans (HB2.out.mono (by omega)))
  have szw := HB2.out.size
  have z0 := RM2.out.cell (i := 0) (by decide)
  have z1 := RM2.out.cell (i := 1) (by decide)
  have z2 := RM2.out.cell (i := 2) (by decide)
  have z3 := RM2.out.cell (i := 3) (by decide)
  have z4 := RM2.out.cell (i := 4) (by decide)
  have z5 := RM2.out.cell (i := 5) (by decide)
  have y4 := RV2.out.cell (i := 4) (by decide)
  have y6 := RV2.out.cell (i := 6) (by decide)
  simp only [lrow] at z0 z1 z2 z3 z4 z5 y4 y6
  clear hW1 SZ
  by_cases hnr : c.nr = h
  · by_cases hno : c.no = o
    · have e1 : ((c.nr : Int) != (h : Int)) = false := by simp; omega
      have e2 : ((c.no : Int) != (o : Int)) = false := by simp; omega
      have HNR := hide hnr
      have HNO := hide hno
      clear hnr hno
      go_upto_region 6 with (fail)
      have hmk : ∀ w' : World, (Instr.makeSlice 25 (.int .i64 (z : Int)) (.int .i64 (z : Int))).run Tryz.prog w' = .ok (.slice (some ⟨w'.heap.size, 0, none⟩) z z) (w'.alloc (.cells (madeCells #[.int .u64 0] z) 24)) := fun w' => by
        have h := run_make_z (P := Tryz.prog) 25 24 #[.int .u64 0] 1 8 Tryz.underlying25 (by kernel_rfl) z (by omega) (by omega) w'
        rw [Nat.mul_one] at h
        exact h
      have lsb := RM2.out.lt
      have lvb := RV2.out.lt
      go_region
      · skip
        obtain ⟨W2, hW2⟩ : ∃ W, ((w1.alloc (.cells (madeCells #[.int .u64 0] z) 24)).alloc (.cells #[.int .i64 (o : Int), .int .i64 (s : Int), .int .i64 (h : Int), .int .i64 (r : Int), .int .i64 (k : Int), .int .i64 s5, .slice (some ⟨w1.heap.size, 0, none⟩) z z] 59)).drew = W := ⟨_, rfl⟩
        have HWr := hide (show Wr W2 w1.heap.size z (fun _ => 0) by rw [← hW2]; exact ((wr_made w1 z).on ((Below.refl _ (w1.alloc (.cells (madeCells #[.int .u64 0] z) 24))).alloc (Nat.le_refl _) _)).drewn)
        have RMB := hide (show W2.rowIs (w1.heap.size + 1) 59 7 (lrow [.int .i64 (o : Int), .int .i64 (s : Int), .int .i64 (h : Int), .int .i64 (r : Int), .int .i64 (k : Int), .int .i64 s5, .slice (some ⟨w1.heap.size, 0, none⟩) z z]) by rw [← hW2]; have h := rowL_alloc (w1.alloc (.cells (madeCells #[.int .u64 0] z) 24)) [.int .i64 (o : Int), .int .i64 (s : Int), .int .i64 (h : Int), .int .i64 (r : Int), .int .i64 (k : Int), .int .i64 s5, .slice (some ⟨w1.heap.size, 0, none⟩) z z] 59 (n := 7) rfl; simp only [World.size_alloc] at h; exact h)
        have HB3 := hide (show Below w1.heap.size w1 W2 by rw [← hW2]; exact bel_drew (((Below.refl _ w1).alloc (Nat.le_refl _) _).alloc (by simp) _))
        simp only [hW2]
        clear hW2 hmk
        obtain ⟨gb, hgb⟩ : ∃ gb, w1.heap.size = gb := ⟨_, rfl⟩
        obtain ⟨mb, hmb⟩ : ∃ mb, (w1.heap.size + 1) = mb := ⟨_, rfl⟩
        have hg1 : w1.heap.size ≤ gb := by omega
        have hmg : ¬ mb = gb := by omega
        try simp only [hmb]
        try simp only [hgb]
        rw [hmb, hgb] at RMB
        rw [hgb] at HWr
        clear hgb hmb
        clear z0 z1 z2 z3 z4 z5 y4 y6 e1 e2
        have lmb : mb < W2.heap.size := RMB.out.lt
        have lvb2 : vb < W2.heap.size := by have := HB3.out.size; omega
        have RV3 := hide (show W2.rowIs vb 31 14 (lrow [.int .i64 c.ph, .int .i64 c.co, .int .u64 c.ro, .slice a.aa c.na a.ca, .slice a.ra c.nr a.cr, .slice a.wa c.nw a.cw, .slice a.oa c.no a.cb, .slice a.fa c.fr.length a.cf, .slice a.ga c.gr.length a.cg, .slice a.qa c.qu.length a.cq, .int .u64 (c.cn 0), .int .u64 (c.cn 1), .int .u64 (c.cn 2), .int .u64 (c.cn 3)]) from row_on RV2.out HB3.out)
        have BW2 := hide (show Below w.heap.size w W2 from BW1.out.trans (HB3.out.mono BW1.out.size))
        have hwg : w.heap.size ≤ gb := by have := BW1.out.size; omega
        have m0 := RMB.out.cell (i := 0) (by decide)
        have m1 := RMB.out.cell (i := 1) (by decide)
        have m2 := RMB.out.cell (i := 2) (by decide)
        have m3 := RMB.out.cell (i := 3) (by decide)
        have m4 := RMB.out.cell (i := 4) (by decide)
        have m5 := RMB.out.cell (i := 5) (by decide)
        have m6 := RMB.out.cell (i := 6) (by decide)
        have v0 := RV3.out.cell (i := 0) (by decide)
        have v1 := RV3.out.cell (i := 1) (by decide)
        have v2 := RV3.out.cell (i := 2) (by decide)
        have v3 := RV3.out.cell (i := 3) (by decide)
        have v4 := RV3.out.cell (i := 4) (by decide)
        have v5 := RV3.out.cell (i := 5) (by decide)
        have v6 := RV3.out.cell (i := 6) (by decide)
        have v7 := RV3.out.cell (i := 7) (by decide)
        have v8 := RV3.out.cell (i := 8) (by decide)
        have v9 := RV3.out.cell (i := 9) (by decide)
        have v10 := RV3.out.cell (i := 10) (by decide)
        have v11 := RV3.out.cell (i := 11) (by decide)
        have v12 := RV3.out.cell (i := 12) (by decide)
        have v13 := RV3.out.cell (i := 13) (by decide)
        simp only [lrow] at m0 m1 m2 m3 m4 m5 m6 v0 v1 v2 v3 v4 v5 v6 v7 v8 v9 v10 v11 v12 v13
        go_upto_region 8 with (go_at_call 22; refine (lay_ok (V := w) (c := c) (a := a) (cap := z) H hz (Nat.le_refl _) HWr.out HSV.out BW2.out hwg HB.out HL.out HNR.out HNO.out).mono ?_; rintro e w3 ⟨⟨vv, rfl⟩, h3, h4⟩; have HW3 := h3; have BX3 := h4; clear h3 h4)
        clear m0 m1 m2 m3 m4 m5 m6 v0 v1 v2 v3 v4 v5 v6 v7 v8 v9 v10 v11 v12 v13
        have hvg : ¬ vb = gb := by omega
        have RM4 := hide (fun (wx : World) (hx : Below w3.heap.size w3 wx) => show wx.rowIs mb 59 7 (lrow [.int .i64 (o : Int), .int .i64 (s : Int), .int .i64 (h : Int), .int .i64 (r : Int), .int .i64 (k : Int), .int .i64 s5, .slice (some ⟨gb, 0, none⟩) z z]) from row_on (RMB.out.of_block (BX3.out.blk _ lmb hmg)) hx)
        have RV4 := hide (fun (wx : World) (hx : Below w3.heap.size w3 wx) => show wx.rowIs vb 31 14 (lrow [.int .i64 c.ph, .int .i64 c.co, .int .u64 c.ro, .slice a.aa c.na a.ca, .slice a.ra c.nr a.cr, .slice a.wa c.nw a.cw, .slice a.oa c.no a.cb, .slice a.fa c.fr.length a.cf, .slice a.ga c.gr.length a.cg, .slice a.qa c.qu.length a.cq, .int .u64 (c.cn 0), .int .u64 (c.cn 1), .int .u64 (c.cn 2), .int .u64 (c.cn 3)]) from row_on (RV3.out.of_block (BX3.out.blk _ lvb2 hvg)) hx)
        have BW3 := hide (show Below w.heap.size w w3 from BW2.out.trans (BX3.out.low.mono hwg))
        have SC := hide (fun (wx : World) (hx : Below w3.heap.size w3 wx) => show Shows wx c a from HSV.out.below (BW3.out.trans (hx.mono BW3.out.size)))
        have HF := hide (show ∀ i, i < z → 0 ≤ lwF ⟨o, s, h, r, k⟩ c i ∧ lwF ⟨o, s, h, r, k⟩ c i < 18446744073709551616 by rw [← hz]; exact lw_bnd H HB.out HNR.out HNO.out)
        have HLC := hide (show Len (cv ⟨o, s, h, r, k⟩ (lwF ⟨o, s, h, r, k⟩ c)) from len_cv H (by rw [hz]; exact HF.out))
        refine LtH.region2 (ks := [(0, 38), (2, 40)]) (vals := fun iv => match iv with | 0 => .agg #[.int .i64 (o : Int), .int .i64 (s : Int), .int .i64 (h : Int), .int .i64 (r : Int), .int .i64 (k : Int), .int .i64 s5, .slice (some ⟨gb, 0, none⟩) z z] | 2 => .agg #[.int .i64 c.ph, .int .i64 c.co, .int .u64 c.ro, .slice a.aa c.na a.ca, .slice a.ra c.nr a.cr, .slice a.wa c.nw a.cw, .slice a.oa c.no a.cb, .slice a.fa c.fr.length a.cf, .slice a.ga c.gr.length a.cg, .slice a.qa c.qu.length a.cq, .int .u64 (c.cn 0), .int .u64 (c.cn 1), .int .u64 (c.cn 2), .int .u64 (c.cn 3)] | _ => undef) (xs := [39, 41, 42]) (WI := (fun L s' w' => LW w3 (cv ⟨o, s, h, r, k⟩ (lwF ⟨o, s, h, r, k⟩ c)) 39 41 42 (Cq (cv ⟨o, s, h, r, k⟩ (lwF ⟨o, s, h, r, k⟩ c)) c) (L 1) (L 3) (L 4) s' w')) (by kernel_rfl) ?A8gd ?A8bk rfl ?A8dd ?A8xx ?A8lc ?A8st ?A8do ?A8fi
        case A8gd =>
          intro iq oq ho
          have hiq : iq < 5 := by have := (Array.getElem?_eq_some_iff.1 ho).1; simpa using this
          match iq, hiq with
          | 0, _ | 1, _ | 2, _ | 3, _ | 4, _ => injection ho with ho; subst ho; rfl
        case A8bk =>
          intro iq oq ho
          have hiq : iq < 5 := by have := (Array.getElem?_eq_some_iff.1 ho).1; simpa using this
          match iq, hiq with
          | 0, _ | 1, _ | 2, _ | 3, _ | 4, _ => injection ho with ho; subst ho; simp [Region.binds]
        case A8dd =>
          intro kq hk
          have hk2 : kq < 45 := by
            simp [Lt.D] at hk
            omega
          exact hk2
        case A8xx =>
          intro kq hk
          have hk2 : kq < 45 := by
            simp at hk
            omega
          exact hk2
        case A8lc => exact fun L s1 s2 w1 hx h => LW.local (hx 39 rfl) (hx 41 rfl) (hx 42 rfl) h
        case A8st => exact ⟨bel_drew (Below.refl _ _), (fun e => by cases e), (fun e => by cases e), (fun e => by cases e)⟩
        case A8do =>
          intro iq oq ho
          have hiq : iq < 5 := by have := (Array.getElem?_eq_some_iff.1 ho).1; simpa using this
          match iq, hiq with
          | 0, _ => injection ho with ho; subst ho; exact LtH.Does.read rfl (fun L s' w' h => LW.up 0 (by decide) (by decide) (by decide) h) (fun L ac w' hI hq => Lt.ex_load_row rfl (hI.fix 8 (Lt.notD rfl) rfl) (rngL (RM4.out w' hI.world.1) rfl) (by kernel_rfl) (by kernel_rfl))
          | 1, _ => injection ho with ho; subst ho; exact LtH.Does.call (x := 39) rfl rfl rfl (fun L ac w' hI hq => Lt.call1 rfl (hI.pure 0 _ _ rfl (hq ⟨0, .data⟩ (by simp) rfl)) rfl (by simp [go_sem])) (fun L s' w' hS hL => (look_ok (s5 := s5) (b := gb) (off := 0) (cap := z) (B := w'.heap.size) H hz (Nat.le_refl _) ((HW3.out.on hS.1).sees) (Nat.le_refl _) HF.out).mono (by rintro e w2 ⟨⟨a', rfl, hO⟩, hb⟩; exact ⟨_, rfl, LW.c1 hS hb hO.out.shows⟩))
          | 2, _ => injection ho with ho; subst ho; exact LtH.Does.read rfl (fun L s' w' h => LW.up 2 (by decide) (by decide) (by decide) h) (fun L ac w' hI hq => Lt.ex_load_row rfl (hI.fix 3 (Lt.notD rfl) rfl) (rngL (RV4.out w' hI.world.1) rfl) (by kernel_rfl) (by kernel_rfl))
          | 3, _ => injection ho with ho; subst ho; exact LtH.Does.own 41 rfl rfl rfl (fun L ac w' K hI hL hq hk => by obtain ⟨a', e1, hs1⟩ := hI.world.2.1 (hq ⟨1, .data⟩ (by simp) rfl); refine Lt.wp_call (Lt.call2 rfl e1 (hI.pure 2 _ _ rfl (hq ⟨2, .data⟩ (by simp) rfl)) rfl (by simp [go_sem])) ((sameView_ok hs1 (SC.out w' hI.world.1) HLC.out HL.out).mono ?_); rintro e w2 ⟨⟨b, rfl, hb⟩, hB⟩; exact ⟨_, rfl, hk _ _ (LW.c3 hI.world hB hb)⟩)
          | 4, _ => injection ho with ho; subst ho; exact LtH.Does.own 42 rfl rfl rfl (fun L ac w' K hI hL hq hk => by obtain ⟨b, e1, hb⟩ := hI.world.2.2.1 (hq ⟨3, .data⟩ (by simp) rfl); exact Lt.wp_value (ex_not rfl e1) (hk _ _ (LW.c4 hI.world hb)))
        case A8fi =>
          intro L a' W hI hall
          have HWd := hI.world
          obtain ⟨b, e42, hb⟩ := HWd.2.2.2 (hall 4 (by decide))
          have hfr := LtH.frame hI [38, 39, 40, 41, 42] rfl rfl (fun x hx => by simp at hx ⊢; omega)
          have e38 := hI.pure 0 _ _ rfl (hall 0 (by decide))
          have e40 := hI.pure 2 _ _ rfl (hall 2 (by decide))
          rw [hfr]
          simp only [LtH.lay, List.foldl, e38, e40, e42]
          have HB5 := hide HWd.1
          clear hfr hI hall e38 e40 e42 HWd
          simp only [Act.put, List.setIfInBounds_toArray, List.set_cons_succ, List.set_cons_zero]
          generalize a'.eval (.tmp 39) = v39
          generalize a'.eval (.tmp 41) = v41
          have BW5 := hide (show Below w.heap.size w W from BW3.out.trans (HB5.out.mono BW3.out.size))
          have RM5 := RM4.out W HB5.out
          have x6 := RM5.cell (i := 6) (by decide)
          simp only [lrow] at x6
          have HR5 := hide RM5
          clear RM5
          cases b
          · have hP : Hid (Cq (cv ⟨o, s, h, r, k⟩ (lwF ⟨o, s, h, r, k⟩ c)) c) := hide (Classical.byContradiction (fun hn => by cases hb.2 hn))
            clear hb
            go_wp2_with (fail)
            exact bodyPost_ret (results_tmp2 (by rfl) _ _ _) rfl ⟨.inr ⟨gb, z, rfl, Nat.le_refl _, hwg, hide (HW3.out.on HB5.out), HNR.out, HNO.out, hP.out⟩, BW5.out⟩
          · have hP : Hid (¬ (Cq (cv ⟨o, s, h, r, k⟩ (lwF ⟨o, s, h, r, k⟩ c)) c)) := hide (hb.1 rfl)
            clear hb
            go_wp2_with (fail)
            exact bodyPost_ret (results_tmp2 (by rfl) _ _ _) rfl ⟨.inl ⟨rfl, fun hh => hP.out hh.2.2⟩, BW5.out⟩
      · skip
        obtain ⟨W2, hW2⟩ : ∃ W, ((w1.alloc (.cells #[.int .i64 (o : Int), .int .i64 (s : Int), .int .i64 (h : Int), .int .i64 (r : Int), .int .i64 (k : Int), .int .i64 s5, .slice (some ⟨w1.heap.size + 1, 0, none⟩) z z] 59)).alloc (.cells (madeCells #[.int .u64 0] z) 24)).drew = W := ⟨_, rfl⟩
        have HWr := hide (show Wr W2 (w1.heap.size + 1) z (fun _ => 0) by rw [← hW2]; have h := wr_made (w1.alloc (.cells #[.int .i64 (o : Int), .int .i64 (s : Int), .int .i64 (h : Int), .int .i64 (r : Int), .int .i64 (k : Int), .int .i64 s5, .slice (some ⟨w1.heap.size + 1, 0, none⟩) z z] 59)) z; simp only [World.size_alloc] at h; exact h.drewn)
        have RMB := hide (show W2.rowIs w1.heap.size 59 7 (lrow [.int .i64 (o : Int), .int .i64 (s : Int), .int .i64 (h : Int), .int .i64 (r : Int), .int .i64 (k : Int), .int .i64 s5, .slice (some ⟨w1.heap.size + 1, 0, none⟩) z z]) by rw [← hW2]; have h := (rowL_alloc w1 [.int .i64 (o : Int), .int .i64 (s : Int), .int .i64 (h : Int), .int .i64 (r : Int), .int .i64 (k : Int), .int .i64 s5, .slice (some ⟨w1.heap.size + 1, 0, none⟩) z z] 59 (n := 7) rfl).alloc (.cells (madeCells #[.int .u64 0] z) 24); exact h)
        have HB3 := hide (show Below w1.heap.size w1 W2 by rw [← hW2]; exact bel_drew (((Below.refl _ w1).alloc (Nat.le_refl _) _).alloc (by simp) _))
        simp only [hW2]
        clear hW2 hmk
        obtain ⟨gb, hgb⟩ : ∃ gb, (w1.heap.size + 1) = gb := ⟨_, rfl⟩
        obtain ⟨mb, hmb⟩ : ∃ mb, w1.heap.size = mb := ⟨_, rfl⟩
        have hg1 : w1.heap.size ≤ gb := by omega
        have hmg : ¬ mb = gb := by omega
        try simp only [hgb]
        try simp only [hmb]
        rw [hgb] at HWr RMB
        rw [hmb] at RMB
        clear hgb hmb
        clear z0 z1 z2 z3 z4 z5 y4 y6 e1 e2
        have lmb : mb < W2.heap.size := RMB.out.lt
        have lvb2 : vb < W2.heap.size := by have := HB3.out.size; omega
        have RV3 := hide (show W2.rowIs vb 31 14 (lrow [.int .i64 c.ph, .int .i64 c.co, .int .u64 c.ro, .slice a.aa c.na a.ca, .slice a.ra c.nr a.cr, .slice a.wa c.nw a.cw, .slice a.oa c.no a.cb, .slice a.fa c.fr.length a.cf, .slice a.ga c.gr.length a.cg, .slice a.qa c.qu.length a.cq, .int .u64 (c.cn 0), .int .u64 (c.cn 1), .int .u64 (c.cn 2), .int .u64 (c.cn 3)]) from row_on RV2.out HB3.out)
        have BW2 := hide (show Below w.heap.size w W2 from BW1.out.trans (HB3.out.mono BW1.out.size))
        have hwg : w.heap.size ≤ gb := by have := BW1.out.size; omega
        have m0 := RMB.out.cell (i := 0) (by decide)
        have m1 := RMB.out.cell (i := 1) (by decide)
        have m2 := RMB.out.cell (i := 2) (by decide)
        have m3 := RMB.out.cell (i := 3) (by decide)
        have m4 := RMB.out.cell (i := 4) (by decide)
        have m5 := RMB.out.cell (i := 5) (by decide)
        have m6 := RMB.out.cell (i := 6) (by decide)
        have v0 := RV3.out.cell (i := 0) (by decide)
        have v1 := RV3.out.cell (i := 1) (by decide)
        have v2 := RV3.out.cell (i := 2) (by decide)
        have v3 := RV3.out.cell (i := 3) (by decide)
        have v4 := RV3.out.cell (i := 4) (by decide)
        have v5 := RV3.out.cell (i := 5) (by decide)
        have v6 := RV3.out.cell (i := 6) (by decide)
        have v7 := RV3.out.cell (i := 7) (by decide)
        have v8 := RV3.out.cell (i := 8) (by decide)
        have v9 := RV3.out.cell (i := 9) (by decide)
        have v10 := RV3.out.cell (i := 10) (by decide)
        have v11 := RV3.out.cell (i := 11) (by decide)
        have v12 := RV3.out.cell (i := 12) (by decide)
        have v13 := RV3.out.cell (i := 13) (by decide)
        simp only [lrow] at m0 m1 m2 m3 m4 m5 m6 v0 v1 v2 v3 v4 v5 v6 v7 v8 v9 v10 v11 v12 v13
        go_upto_region 8 with (go_at_call 22; refine (lay_ok (V := w) (c := c) (a := a) (cap := z) H hz (Nat.le_refl _) HWr.out HSV.out BW2.out hwg HB.out HL.out HNR.out HNO.out).mono ?_; rintro e w3 ⟨⟨vv, rfl⟩, h3, h4⟩; have HW3 := h3; have BX3 := h4; clear h3 h4)
        clear m0 m1 m2 m3 m4 m5 m6 v0 v1 v2 v3 v4 v5 v6 v7 v8 v9 v10 v11 v12 v13
        have hvg : ¬ vb = gb := by omega
        have RM4 := hide (fun (wx : World) (hx : Below w3.heap.size w3 wx) => show wx.rowIs mb 59 7 (lrow [.int .i64 (o : Int), .int .i64 (s : Int), .int .i64 (h : Int), .int .i64 (r : Int), .int .i64 (k : Int), .int .i64 s5, .slice (some ⟨gb, 0, none⟩) z z]) from row_on (RMB.out.of_block (BX3.out.blk _ lmb hmg)) hx)
        have RV4 := hide (fun (wx : World) (hx : Below w3.heap.size w3 wx) => show wx.rowIs vb 31 14 (lrow [.int .i64 c.ph, .int .i64 c.co, .int .u64 c.ro, .slice a.aa c.na a.ca, .slice a.ra c.nr a.cr, .slice a.wa c.nw a.cw, .slice a.oa c.no a.cb, .slice a.fa c.fr.length a.cf, .slice a.ga c.gr.length a.cg, .slice a.qa c.qu.length a.cq, .int .u64 (c.cn 0), .int .u64 (c.cn 1), .int .u64 (c.cn 2), .int .u64 (c.cn 3)]) from row_on (RV3.out.of_block (BX3.out.blk _ lvb2 hvg)) hx)
        have BW3 := hide (show Below w.heap.size w w3 from BW2.out.trans (BX3.out.low.mono hwg))
        have SC := hide (fun (wx : World) (hx : Below w3.heap.size w3 wx) => show Shows wx c a from HSV.out.below (BW3.out.trans (hx.mono BW3.out.size)))
        have HF := hide (show ∀ i, i < z → 0 ≤ lwF ⟨o, s, h, r, k⟩ c i ∧ lwF ⟨o, s, h, r, k⟩ c i < 18446744073709551616 by rw [← hz]; exact lw_bnd H HB.out HNR.out HNO.out)
        have HLC := hide (show Len (cv ⟨o, s, h, r, k⟩ (lwF ⟨o, s, h, r, k⟩ c)) from len_cv H (by rw [hz]; exact HF.out))
        refine LtH.region2 (ks := [(0, 38), (2, 40)]) (vals := fun iv => match iv with | 0 => .agg #[.int .i64 (o : Int), .int .i64 (s : Int), .int .i64 (h : Int), .int .i64 (r : Int), .int .i64 (k : Int), .int .i64 s5, .slice (some ⟨gb, 0, none⟩) z z] | 2 => .agg #[.int .i64 c.ph, .int .i64 c.co, .int .u64 c.ro, .slice a.aa c.na a.ca, .slice a.ra c.nr a.cr, .slice a.wa c.nw a.cw, .slice a.oa c.no a.cb, .slice a.fa c.fr.length a.cf, .slice a.ga c.gr.length a.cg, .slice a.qa c.qu.length a.cq, .int .u64 (c.cn 0), .int .u64 (c.cn 1), .int .u64 (c.cn 2), .int .u64 (c.cn 3)] | _ => undef) (xs := [39, 41, 42]) (WI := (fun L s' w' => LW w3 (cv ⟨o, s, h, r, k⟩ (lwF ⟨o, s, h, r, k⟩ c)) 39 41 42 (Cq (cv ⟨o, s, h, r, k⟩ (lwF ⟨o, s, h, r, k⟩ c)) c) (L 1) (L 3) (L 4) s' w')) (by kernel_rfl) ?A8gd ?A8bk rfl ?A8dd ?A8xx ?A8lc ?A8st ?A8do ?A8fi
        case A8gd =>
          intro iq oq ho
          have hiq : iq < 5 := by have := (Array.getElem?_eq_some_iff.1 ho).1; simpa using this
          match iq, hiq with
          | 0, _ | 1, _ | 2, _ | 3, _ | 4, _ => injection ho with ho; subst ho; rfl
        case A8bk =>
          intro iq oq ho
          have hiq : iq < 5 := by have := (Array.getElem?_eq_some_iff.1 ho).1; simpa using this
          match iq, hiq with
          | 0, _ | 1, _ | 2, _ | 3, _ | 4, _ => injection ho with ho; subst ho; simp [Region.binds]
        case A8dd =>
          intro kq hk
          have hk2 : kq < 45 := by
            simp [Lt.D] at hk
            omega
          exact hk2
        case A8xx =>
          intro kq hk
          have hk2 : kq < 45 := by
            simp at hk
            omega
          exact hk2
        case A8lc => exact fun L s1 s2 w1 hx h => LW.local (hx 39 rfl) (hx 41 rfl) (hx 42 rfl) h
        case A8st => exact ⟨bel_drew (Below.refl _ _), (fun e => by cases e), (fun e => by cases e), (fun e => by cases e)⟩
        case A8do =>
          intro iq oq ho
          have hiq : iq < 5 := by have := (Array.getElem?_eq_some_iff.1 ho).1; simpa using this
          match iq, hiq with
          | 0, _ => injection ho with ho; subst ho; exact LtH.Does.read rfl (fun L s' w' h => LW.up 0 (by decide) (by decide) (by decide) h) (fun L ac w' hI hq => Lt.ex_load_row rfl (hI.fix 8 (Lt.notD rfl) rfl) (rngL (RM4.out w' hI.world.1) rfl) (by kernel_rfl) (by kernel_rfl))
          | 1, _ => injection ho with ho; subst ho; exact LtH.Does.call (x := 39) rfl rfl rfl (fun L ac w' hI hq => Lt.call1 rfl (hI.pure 0 _ _ rfl (hq ⟨0, .data⟩ (by simp) rfl)) rfl (by simp [go_sem])) (fun L s' w' hS hL => (look_ok (s5 := s5) (b := gb) (off := 0) (cap := z) (B := w'.heap.size) H hz (Nat.le_refl _) ((HW3.out.on hS.1).sees) (Nat.le_refl _) HF.out).mono (by rintro e w2 ⟨⟨a', rfl, hO⟩, hb⟩; exact ⟨_, rfl, LW.c1 hS hb hO.out.shows⟩))
          | 2, _ => injection ho with ho; subst ho; exact LtH.Does.read rfl (fun L s' w' h => LW.up 2 (by decide) (by decide) (by decide) h) (fun L ac w' hI hq => Lt.ex_load_row rfl (hI.fix 3 (Lt.notD rfl) rfl) (rngL (RV4.out w' hI.world.1) rfl) (by kernel_rfl) (by kernel_rfl))
          | 3, _ => injection ho with ho; subst ho; exact LtH.Does.own 41 rfl rfl rfl (fun L ac w' K hI hL hq hk => by obtain ⟨a', e1, hs1⟩ := hI.world.2.1 (hq ⟨1, .data⟩ (by simp) rfl); refine Lt.wp_call (Lt.call2 rfl e1 (hI.pure 2 _ _ rfl (hq ⟨2, .data⟩ (by simp) rfl)) rfl (by simp [go_sem])) ((sameView_ok hs1 (SC.out w' hI.world.1) HLC.out HL.out).mono ?_); rintro e w2 ⟨⟨b, rfl, hb⟩, hB⟩; exact ⟨_, rfl, hk _ _ (LW.c3 hI.world hB hb)⟩)
          | 4, _ => injection ho with ho; subst ho; exact LtH.Does.own 42 rfl rfl rfl (fun L ac w' K hI hL hq hk => by obtain ⟨b, e1, hb⟩ := hI.world.2.2.1 (hq ⟨3, .data⟩ (by simp) rfl); exact Lt.wp_value (ex_not rfl e1) (hk _ _ (LW.c4 hI.world hb)))
        case A8fi =>
          intro L a' W hI hall
          have HWd := hI.world
          obtain ⟨b, e42, hb⟩ := HWd.2.2.2 (hall 4 (by decide))
          have hfr := LtH.frame hI [38, 39, 40, 41, 42] rfl rfl (fun x hx => by simp at hx ⊢; omega)
          have e38 := hI.pure 0 _ _ rfl (hall 0 (by decide))
          have e40 := hI.pure 2 _ _ rfl (hall 2 (by decide))
          rw [hfr]
          simp only [LtH.lay, List.foldl, e38, e40, e42]
          have HB5 := hide HWd.1
          clear hfr hI hall e38 e40 e42 HWd
          simp only [Act.put, List.setIfInBounds_toArray, List.set_cons_succ, List.set_cons_zero]
          generalize a'.eval (.tmp 39) = v39
          generalize a'.eval (.tmp 41) = v41
          have BW5 := hide (show Below w.heap.size w W from BW3.out.trans (HB5.out.mono BW3.out.size))
          have RM5 := RM4.out W HB5.out
          have x6 := RM5.cell (i := 6) (by decide)
          simp only [lrow] at x6
          have HR5 := hide RM5
          clear RM5
          cases b
          · have hP : Hid (Cq (cv ⟨o, s, h, r, k⟩ (lwF ⟨o, s, h, r, k⟩ c)) c) := hide (Classical.byContradiction (fun hn => by cases hb.2 hn))
            clear hb
            go_wp2_with (fail)
            exact bodyPost_ret (results_tmp2 (by rfl) _ _ _) rfl ⟨.inr ⟨gb, z, rfl, Nat.le_refl _, hwg, hide (HW3.out.on HB5.out), HNR.out, HNO.out, hP.out⟩, BW5.out⟩
          · have hP : Hid (¬ (Cq (cv ⟨o, s, h, r, k⟩ (lwF ⟨o, s, h, r, k⟩ c)) c)) := hide (hb.1 rfl)
            clear hb
            go_wp2_with (fail)
            exact bodyPost_ret (results_tmp2 (by rfl) _ _ _) rfl ⟨.inl ⟨rfl, fun hh => hP.out hh.2.2⟩, BW5.out⟩
    · have e1 : ((c.nr : Int) != (h : Int)) = false := by simp; omega
      have e2 : ((c.no : Int) != (o : Int)) = true := by simp; omega
      have HNO := hide hno
      clear hnr hno
      go_wp2_with (fail)
      exact bodyPost_ret (results_tmp2 (by rfl) _ _ _) rfl ⟨.inl ⟨rfl, fun h => HNO.out h.2.1⟩, BW1.out⟩
  · have e1 : ((c.nr : Int) != (h : Int)) = true := by simp; omega
    have HNR := hide hnr
    clear hnr
    go_wp2_with (fail)
    exact bodyPost_ret (results_tmp2 (by rfl) _ _ _) rfl ⟨.inl ⟨rfl, fun h => HNR.out h.1⟩, BW1.out⟩
end Vw
end Go.Proofs.YtecjegjnnahddaaGreat
