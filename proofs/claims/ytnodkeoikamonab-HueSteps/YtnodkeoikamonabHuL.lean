/-
  Hue: the law's own awake and great
-/
import Derived.Test.YtnodkeoikamonabHuF
namespace Go.Proofs.Ytnodkeoikamonab
open Go.RowKit
set_option linter.unusedVariables false
set_option linter.unusedSimpArgs false
set_option linter.unnecessarySimpa false
set_option maxRecDepth 20000
namespace Hu
open Gr
set_option maxHeartbeats 1000000 in
theorem lobj_ok {li : Bool} {ai : Option Addr} {m ci : Nat} {w : World} : Calls Try.prog 41 #[.bool li, .slice ai m ci] w fun e w' => e = .returned (.agg #[.bool true, .bool li, .bool false, .bool false, .int .i64 0, .int .u64 0, .int .u64 0, .int .u64 0, .slice ai m ci]) ∧ Below w.heap.size w w' := by
  go_enter Try.func41, Try.ntmps41
  go_wp2
  refine bodyPost_ret (v := .agg #[.bool true, .bool li, .bool false, .bool false, .int .i64 0, .int .u64 0, .int .u64 0, .int .u64 0, .slice ai m ci]) (by simp [results, Try.results41, go_sem]) rfl ⟨rfl, ?_⟩
  exact (Below.refl _ w).alloc (Nat.le_refl _) _
def os3 : List Ob := [⟨true, true, false, false, 0, 0, 0, 0, [2]⟩, ⟨true, false, false, false, 0, 0, 0, 0, []⟩, ⟨true, true, false, false, 0, 0, 0, 0, [2]⟩]
def cl3 (a1 a3 : Option Addr) : List Value := [.bool true, .bool true, .bool false, .bool false, .int .i64 0, .int .u64 0, .int .u64 0, .int .u64 0, .slice a1 1 1, .bool true, .bool false, .bool false, .bool false, .int .i64 0, .int .u64 0, .int .u64 0, .int .u64 0, .slice none 0 0, .bool true, .bool true, .bool false, .bool false, .int .i64 0, .int .u64 0, .int .u64 0, .int .u64 0, .slice a3 1 1]
theorem sob3 {W : World} {bo b1 b3 : Nat} (R : W.rowIs bo 44 27 (lrow (cl3 (some ⟨b1, 0, none⟩) (some ⟨b3, 0, none⟩)))) (h1 : SeesU W (some ⟨b1, 0, none⟩) [2]) (h3 : SeesU W (some ⟨b3, 0, none⟩) [2]) : Sob W (some ⟨bo, 0, none⟩) os3 ∧ Ncp W (some ⟨bo, 0, none⟩) os3 := by
  have key : ∀ j o, os3[j]? = some o → (j = 0 ∧ o = ⟨true, true, false, false, 0, 0, 0, 0, [2]⟩) ∨ (j = 1 ∧ o = ⟨true, false, false, false, 0, 0, 0, 0, []⟩) ∨ (j = 2 ∧ o = ⟨true, true, false, false, 0, 0, 0, 0, [2]⟩) := by
    intro j o hj
    match j, hj with
    | 0, hj => exact .inl ⟨rfl, by simpa [os3] using hj.symm⟩
    | 1, hj => exact .inr (.inl ⟨rfl, by simpa [os3] using hj.symm⟩)
    | 2, hj => exact .inr (.inr ⟨rfl, by simpa [os3] using hj.symm⟩)
    | j + 3, hj => simp [os3] at hj
  have nine : ∀ q, q < 9 → q = 0 ∨ q = 1 ∨ q = 2 ∨ q = 3 ∨ q = 4 ∨ q = 5 ∨ q = 6 ∨ q = 7 ∨ q = 8 := fun q h => by omega
  constructor
  · intro j o hj
    rcases key j o hj with ⟨rfl, rfl⟩ | ⟨rfl, rfl⟩ | ⟨rfl, rfl⟩
    · refine ⟨bo, 0, some ⟨b1, 0, none⟩, 1, rfl, R.lt, fun q hq => ?_, h1⟩
      rcases nine q hq with rfl | rfl | rfl | rfl | rfl | rfl | rfl | rfl | rfl <;> exact R.cell (by omega)
    · refine ⟨bo, 0, none, 0, rfl, R.lt, fun q hq => ?_, fun j c hj => by simp at hj⟩
      rcases nine q hq with rfl | rfl | rfl | rfl | rfl | rfl | rfl | rfl | rfl <;> exact R.cell (by omega)
    · refine ⟨bo, 0, some ⟨b3, 0, none⟩, 1, rfl, R.lt, fun q hq => ?_, h3⟩
      rcases nine q hq with rfl | rfl | rfl | rfl | rfl | rfl | rfl | rfl | rfl <;> exact R.cell (by omega)
  · intro j o hj
    rcases key j o hj with ⟨rfl, rfl⟩ | ⟨rfl, rfl⟩ | ⟨rfl, rfl⟩
    · exact ⟨bo, 0, _, _, rfl, R.lt, R.cell (i := 8) (by omega), fun h => by cases h⟩
    · exact ⟨bo, 0, _, _, rfl, R.lt, R.cell (i := 17) (by omega), fun h => rfl⟩
    · exact ⟨bo, 0, _, _, rfl, R.lt, R.cell (i := 26) (by omega), fun h => by cases h⟩
theorem bd3 : Bd os3 := by
  have key : ∀ o ∈ os3, (o.sl = [2] ∨ o.sl = []) ∧ o.ge = 0 := by
    intro o ho
    simp [os3] at ho
    rcases ho with rfl | rfl | rfl <;> simp
  refine ⟨by simp [os3], fun o ho => ?_, fun o ho => ?_, fun o ho => by rw [(key o ho).2]; omega⟩
  · rcases (key o ho).1 with h | h <;> rw [h] <;> simp
  · rcases (key o ho).1 with h | h <;> rw [h] <;> intro u hu <;> simp at hu <;> omega
theorem st3 : fs (stp os3 ([3] ++ [])) os3.length = 1 := by decide +kernel
theorem col3 : col os3 [3] 0 = 3 ∧ col os3 [3] 1 = 1 ∧ col os3 [3] 2 = 2 := by decide +kernel
theorem so3 : so os3 [3] 2 os3.length = [2] ∧ so os3 [] 2 os3.length = [] ∧ so os3 [] 3 os3.length = [2, 2] ∧ wh os3 [3] 2 = 2 ∧ wh os3 [] 2 = 2 ∧ so os3 [3] 3 os3.length = [2] := by decide +kernel
theorem wk3 : fs (wkp os3 ([3] ++ [])) os3.length = 0 := by
  refine fs_none (fun j _ => ?_)
  cases hb : wkp os3 ([3] ++ []) j with
  | false => rfl
  | true =>
    obtain ⟨⟨x, h1, h2⟩, h3⟩ := (wkp_iff _ _ _).1 hb
    have e : ([3] ++ [] : List Int) = [3] := rfl
    rw [e] at h1 h2 h3
    rw [so3.2.2.2.2.2] at h1
    simp at h1
    subst h1
    rw [so3.2.2.2.1] at h2
    obtain rfl : j = 1 := by omega
    refine absurd ?_ h3
    show Rc _ _ _
    have hg : gd (lw os3 [3]) 2 = 2 := by rw [gd_lw]; exact so3.2.2.2.1
    have := Rc.root (os := lw os3 [3]) (fr := so os3 [3] 2 os3.length) (h := 2) (by rw [so3.1]; simp) (by rw [hg]; omega)
    rw [hg] at this
    exact this
theorem rc_nil {os : List Ob} {k : Nat} (h : Rc os [] k) : False := by
  induction h with
  | root h1 _ => simp at h1
  | step _ _ _ _ ih => exact ih
theorem wk3n : fs (wkp os3 ([] ++ [])) os3.length = 2 := by
  refine fs_at (i := 1) (by simp [os3]) ?_ (fun j hj => ?_)
  · rw [wkp_iff]
    refine ⟨⟨2, ?_, ?_⟩, fun h => ?_⟩
    · show (2 : Int) ∈ so os3 [] 3 os3.length
      rw [so3.2.2.1]; simp
    · exact so3.2.2.2.2.1
    · have h2 : Rc (lw os3 []) (so os3 [] 2 os3.length) (1 + 1) := h
      rw [so3.2.1] at h2
      exact rc_nil h2
  · cases hb : wkp os3 ([] ++ []) j with
    | false => rfl
    | true =>
      obtain ⟨⟨x, h1, h2⟩, h3⟩ := (wkp_iff _ _ _).1 hb
      have e : ([] ++ [] : List Int) = [] := rfl
      rw [e] at h1 h2
      rw [so3.2.2.1] at h1
      simp at h1
      subst h1
      rw [so3.2.2.2.2.1] at h2
      omega
def c3 : Vc := ⟨[], os3, []⟩
def a3v (bo : Nat) (ga : Option Addr) (ng cg : Nat) : Av := ⟨0, 0, 0, none, 0, 0, none, 0, none, 0, 0, some ⟨bo, 0, none⟩, 3, none, 0, 0, ga, ng, cg, none, 0, 0, 0, 0, 0⟩
theorem hy3 {W : World} {bo ng cg : Nat} {ga : Option Addr} {gl : List Int} (h : Sob W (some ⟨bo, 0, none⟩) os3 ∧ Ncp W (some ⟨bo, 0, none⟩) os3) (hg : SeesN W ga gl) (hn : ng = gl.length) (hl : ng ≤ 1) : Hy W c3 (a3v bo ga ng cg) gl none [] :=
  ⟨h.1, bd3, h.2, (by decide +kernel : nsl os3 os3.length ≤ 17592186044416), (fun e => by cases e), (by decide +kernel : os3.length ≤ 2199023255552), hn, hg, (fun j c hj => by simp at hj), by omega, by simp⟩

set_option maxHeartbeats 4000000 in
theorem awake_ok {w : World} : Calls Try.prog 9 #[] w fun e w' => e = .returned (.bool true) ∧ Below w.heap.size w w' := by
  have OBJ := hide (fun (li : Bool) (ai : Option Addr) (m ci : Nat) (w1 : World) => lobj_ok (li := li) (ai := ai) (m := m) (ci := ci) (w := w1))
  go_enter Try.func9, Try.ntmps9
  go_upto_region 2 with (first
    | (go_at_call 41; refine (OBJ.out true (some ⟨w.heap.size, 0, none⟩) 1 1 _).mono ?_; rintro e wa ⟨rfl, hb⟩; have HBa := hide hb; clear hb)
    | (go_at_call 41; refine (OBJ.out false none 0 0 _).mono ?_; rintro e wb ⟨rfl, hb⟩; have HBb := hide hb; clear hb)
    | (go_at_call 41; refine (OBJ.out true (some ⟨wb.heap.size, 0, none⟩) 1 1 _).mono ?_; rintro e wd ⟨rfl, hb⟩; have HBd := hide hb; clear hb))
  have sa : w.heap.size < wa.heap.size := by have := HBa.out.size; simp at this; omega
  have sb : wa.heap.size ≤ wb.heap.size := HBb.out.size
  have sd : wb.heap.size < wd.heap.size := by have := HBd.out.size; simp at this; omega
  have Bb := hide (show Below wb.heap.size wb wd from ((Below.refl _ wb).alloc (Nat.le_refl _) _).trans (HBd.out.mono (by simp)))
  have S1 := hide (show SeesU wd (some ⟨w.heap.size, 0, none⟩) [2] from fun j c hj => by
    have hj1 : j = 0 := (by have := (List.getElem?_eq_some_iff.1 hj).1; simp at this; omega)
    subst hj1
    simp at hj
    subst hj
    refine ⟨w.heap.size, 0, rfl, by omega, ?_⟩
    have h1 : (w.alloc (.cells #[.int .u64 2] 22)).cell? ⟨w.heap.size, 0, none⟩ = some (.int .u64 2) := (rowL_alloc w [.int .u64 2] 22 rfl).cell (i := 0) (by simp)
    have h2 := (HBa.out.cell (p := ⟨w.heap.size, 0, none⟩) (by simp)).trans h1
    have h3 := (HBb.out.cell (p := ⟨w.heap.size, 0, none⟩) sa).trans h2
    exact (Bb.out.cell (p := ⟨w.heap.size, 0, none⟩) (by show w.heap.size < wb.heap.size; omega)).trans h3)
  have S3 := hide (show SeesU wd (some ⟨wb.heap.size, 0, none⟩) [2] from fun j c hj => by
    have hj1 : j = 0 := (by have := (List.getElem?_eq_some_iff.1 hj).1; simp at this; omega)
    subst hj1
    simp at hj
    subst hj
    refine ⟨wb.heap.size, 0, rfl, sd, ?_⟩
    have h1 : (wb.alloc (.cells #[.int .u64 2] 22)).cell? ⟨wb.heap.size, 0, none⟩ = some (.int .u64 2) := (rowL_alloc wb [.int .u64 2] 22 rfl).cell (i := 0) (by simp)
    exact (HBd.out.cell (p := ⟨wb.heap.size, 0, none⟩) (by simp)).trans h1)
  have BWD := hide (show Below w.heap.size w wd from (((Below.refl _ w).alloc (Nat.le_refl _) _).trans (HBa.out.mono (by simp))).trans ((HBb.out.mono (by omega)).trans (Bb.out.mono (by omega))))
  clear HBa HBb HBd Bb OBJ
  obtain ⟨W3, hW3⟩ : ∃ W3, wd.alloc (.cells (cl3 (some ⟨w.heap.size, 0, none⟩) (some ⟨wb.heap.size, 0, none⟩)).toArray 44) = W3 := ⟨_, rfl⟩
  have R3 := hide (show W3.rowIs wd.heap.size 44 27 (lrow (cl3 (some ⟨w.heap.size, 0, none⟩) (some ⟨wb.heap.size, 0, none⟩))) by rw [← hW3]; exact rowL_alloc wd _ _ rfl)
  have B3 := hide (show Below wd.heap.size wd W3 by rw [← hW3]; exact (Below.refl _ wd).alloc (Nat.le_refl _) _)
  have s3 : W3.heap.size = wd.heap.size + 1 := by rw [← hW3]; simp
  obtain ⟨W4, hW4⟩ : ∃ W4, W3.alloc (.cells #[.int .i64 3] 3) = W4 := ⟨_, rfl⟩
  have R4 := hide (show W4.rowIs W3.heap.size 3 1 (lrow [.int .i64 3]) by rw [← hW4]; exact rowL_alloc W3 [.int .i64 3] _ rfl)
  have B4 := hide (show Below W3.heap.size W3 W4 by rw [← hW4]; exact (Below.refl _ W3).alloc (Nat.le_refl _) _)
  have s4 : W4.heap.size = wd.heap.size + 1 + 1 := by rw [← hW4]; simp [s3]
  have SB4 := hide (show Sob W4 (some ⟨wd.heap.size, 0, none⟩) os3 ∧ Ncp W4 (some ⟨wd.heap.size, 0, none⟩) os3 from sob3 (row_on R3.out B4.out) ((S1.out.below B3.out).below B4.out) ((S3.out.below B3.out).below B4.out))
  have SG4 := hide (show SeesN W4 (some ⟨wd.heap.size + 1, 0, none⟩) [3] from fun j c hj => by
    have hj1 : j = 0 := (by have := (List.getElem?_eq_some_iff.1 hj).1; simp at this; omega)
    subst hj1
    simp at hj
    subst hj
    refine ⟨wd.heap.size + 1, 0, rfl, by omega, ?_⟩
    have := R4.out.cell (i := 0) (by omega)
    rw [s3] at this
    exact this)
  obtain ⟨W5, hW5, B5, R5⟩ := vbox W4 c3 (a3v wd.heap.size (some ⟨wd.heap.size + 1, 0, none⟩) 1 1)
  have HB5 := hide B5
  have HR5 := hide R5
  have VF := hide (fun (wx : World) (hb : Below W5.heap.size W5 wx) => vcells (row_on R5 hb))
  have l5 : W4.heap.size < W5.heap.size := R5.lt
  have B45 := hide (fun (wx : World) (hb : Below W5.heap.size W5 wx) => show Below W4.heap.size W4 wx from HB5.out.trans (hb.mono HB5.out.size))
  have ST := hide (fun (wx : World) (hb : Below W5.heap.size W5 wx) => strong_ok (bc := 0) (hy3 (cg := 1) ⟨SB4.out.1.below (B45.out wx hb), SB4.out.2.below (B45.out wx hb)⟩ (SG4.out.below (B45.out wx hb)) rfl (Nat.le_refl _)))
  have WK := hide (fun (wx : World) (hb : Below W5.heap.size W5 wx) => weak_ok (bc := 0) (hy3 (cg := 1) ⟨SB4.out.1.below (B45.out wx hb), SB4.out.2.below (B45.out wx hb)⟩ (SG4.out.below (B45.out wx hb)) rfl (Nat.le_refl _)))
  have WN := hide (fun (wx : World) (hb : Below W4.heap.size W4 wx) => weak_ok (bc := 0) (hy3 (cg := 0) (ga := none) (ng := 0) (gl := []) ⟨SB4.out.1.below hb, SB4.out.2.below hb⟩ (fun j c hj => by simp at hj) rfl (Nat.zero_le _)))
  have e3 : c3.os = os3 := rfl
  simp only [e3, st3, wk3, wk3n, show er 1 = 150 from rfl, show er 0 = 0 from rfl, show er 2 = 150 from rfl] at ST WK WN
  have n3 : os3.length = 3 := rfl
  simp only [vl, c3, a3v, List.length_nil, n3] at ST WK WN
  simp only [c3, a3v, List.length_nil, n3] at hW5 VF
  simp only [cl3] at hW3
  rw [s4] at l5 HR5 VF
  have BW4 := hide (show Below w.heap.size w W4 from BWD.out.trans ((B3.out.mono (by omega)).trans (B4.out.mono (by omega))))
  have f4 : w.heap.size ≤ W4.heap.size := by omega
  have Hs4 := hide s4
  clear B5 R5 R3 B3 R4 B4 S1 S3 e3 n3 s3 s4
  simp only [hW3, hW4, hW5]
  clear hW3 hW4 hW5
  obtain ⟨x0, x1, x2, x3, x4, x5, x6, x7, x8, x9, x10, x11, x12, x13⟩ := VF.out W5 (Below.refl _ _)
  go_upto_region 3 with (go_at_call 15; refine (ST.out _ (Below.refl _ _)).mono ?_; rintro e w6 ⟨rfl, hb⟩; have HB6 := hide hb; clear hb)
  clear x0 x1 x2 x3 x4 x5 x6 x7 x8 x9 x10 x11 x12 x13
  obtain ⟨x0, x1, x2, x3, x4, x5, x6, x7, x8, x9, x10, x11, x12, x13⟩ := VF.out w6 HB6.out
  go_upto_region 4 with (go_at_call 16; refine (WK.out _ HB6.out).mono ?_; rintro e w7 ⟨rfl, hb⟩; have HB7 := hide (HB6.out.trans (hb.mono HB6.out.size)); clear hb)
  clear x0 x1 x2 x3 x4 x5 x6 x7 x8 x9 x10 x11 x12 x13 HB6
  have R7 := row_on HR5.out HB7.out
  have f7 : w7.frozen? ⟨wd.heap.size + 1 + 1, 8, none⟩ = false := R7.frozen 8
  have x8 : w7.cell? ⟨wd.heap.size + 1 + 1, 8, none⟩ = some (.slice (some ⟨wd.heap.size + 1, 0, none⟩) 1 1) := R7.cell (i := 8) (by omega)
  obtain ⟨W8, hW8⟩ : ∃ W8, w7.setCell ⟨wd.heap.size + 1 + 1, 8, none⟩ (.slice none 0 0) = W8 := ⟨_, rfl⟩
  have R8 := hide (show W8.rowIs (wd.heap.size + 1 + 1) 29 14 (lrow (vcl c3 (a3v wd.heap.size none 0 0))) by
    rw [← hW8]
    refine (R7.set 8 _).congr (fun i hi => ?_)
    by_cases e : i = 8
    · subst e; rfl
    · rw [if_neg e]
      have : i = 0 ∨ i = 1 ∨ i = 2 ∨ i = 3 ∨ i = 4 ∨ i = 5 ∨ i = 6 ∨ i = 7 ∨ i = 9 ∨ i = 10 ∨ i = 11 ∨ i = 12 ∨ i = 13 := by omega
      rcases this with rfl | rfl | rfl | rfl | rfl | rfl | rfl | rfl | rfl | rfl | rfl | rfl | rfl <;> rfl)
  have HB8 := hide (show Below W4.heap.size W4 W8 by rw [← hW8]; exact (B45.out w7 HB7.out).setCell (by rw [Hs4.out]; exact Nat.le_refl _) _)
  clear R7
  go_upto_region 5 with (fail)
  clear hW8 f7 x8
  have V8 := vcells R8.out
  simp only [c3, a3v, List.length_nil, show os3.length = 3 from rfl] at V8
  obtain ⟨x0, x1, x2, x3, x4, x5, x6, x7, x8, x9, x10, x11, x12, x13⟩ := V8
  go_wp2_with (go_at_call 16; refine (WN.out _ HB8.out).mono ?_; rintro e w9 ⟨rfl, hb⟩; have HB9 := hide hb; clear hb)
  go_ret
  exact ⟨rfl, BW4.out.trans ((HB8.out.trans (HB9.out.mono HB8.out.size)).mono f4)⟩

/-- What is handed in, before its size is known. -/
structure H0 (w : World) (c : Vc) (a : Av) (gl : List Int) (ba : Option Addr) (bs : List Int) : Prop where
  s : Sob w a.oa c.os
  b : Bd c.os
  n : Ncp w a.oa c.os
  cb : a.oa = none → a.cb = 0
  no : c.os.length ≤ 2199023255552
  ng : a.ng = gl.length
  g : SeesN w a.ga gl
  l : SeesN w ba bs
  gl : gl.length ≤ 17592186044416
  bl : bs.length ≤ 17592186044416
/-- Not larger than a statement goes. -/
structure Sm (c : Vc) (gl bs : List Int) : Prop where
  a : nsl c.os c.os.length + c.os.length + gl.length + bs.length ≤ 3000
theorem H0.hy {w w' : World} {c : Vc} {a : Av} {gl : List Int} {ba : Option Addr} {bs : List Int} (h : H0 w c a gl ba bs) (hs : Sm c gl bs) (hb : Below w.heap.size w w') : Hy w' c a gl ba bs :=
  ⟨h.s.below hb, h.b, h.n.below hb, by have := hs.a; omega, h.cb, h.no, h.ng, h.g.below hb, h.l.below hb, h.gl, h.bl⟩
def Gt (w w' : World) (e : Ending) (c : Vc) (gl bs : List Int) : Prop := ∃ v, e = .returned (.bool v) ∧ (v = false → Sm c gl bs) ∧ Below w.heap.size w w'

set_option maxHeartbeats 4000000 in
theorem great_ok {c : Vc} {a : Av} {w : World} {gl bs : List Int} {ba : Option Addr} {bc : Nat} (hy : H0 w c a gl ba bs) : Calls Try.prog 10 #[vl c a, .slice ba bs.length bc] w fun e w' => Gt w w' e c gl bs := by
  obtain ⟨W0, hW0, B0, R0⟩ := vbox w c a
  have V0 := hide (vcells R0)
  have HB0 := hide B0
  have hng := hy.ng
  have HS0 := hide (hy.s.below B0)
  have HBd := hide hy.b
  have hno := hy.no
  have hgl := hy.gl
  have hbl := hy.bl
  clear hy B0 R0
  obtain ⟨ph, co, ro, aa, na, ca, ra, cr, wa, nw, cw, oa, cb, fa, nf, cf, ga, ng, cg, qa, cq, k0, k1, k2, k3⟩ := a
  simp only [vl]
  simp only at hW0 V0 HS0 hng
  subst hng
  have SM := hide (fun h => Sm.mk (c := c) (gl := gl) (bs := bs) h)
  obtain ⟨n, hn⟩ : ∃ n, c.os.length = n := ⟨_, rfl⟩
  obtain ⟨nr, hnre⟩ : ∃ nr, c.rs.length = nr := ⟨_, rfl⟩
  obtain ⟨nqz, hnqe⟩ : ∃ nqz, c.qu.length = nqz := ⟨_, rfl⟩
  obtain ⟨ngl, hngl⟩ : ∃ ngl, gl.length = ngl := ⟨_, rfl⟩
  obtain ⟨nbs, hnbs⟩ : ∃ nbs, bs.length = nbs := ⟨_, rfl⟩
  simp only [hn, hnre, hnqe, hngl, hnbs] at hW0 V0 hno hgl hbl SM ⊢
  obtain ⟨os, hos⟩ : ∃ os, c.os = os := ⟨_, rfl⟩
  rw [hos] at HS0 hn HBd
  simp only [hos] at SM
  have Hn := hide hn
  have NS := hide (fun (k : Nat) (o : Ob) (ho : os[k]? = some o) => HBd.out.ns o (List.mem_of_getElem? ho))
  clear hn hnre hnqe hos hngl hnbs HBd
  have c6 := V0.out.2.2.2.2.2.2.1
  have c8 := V0.out.2.2.2.2.2.2.2.2.1
  clear V0
  go_enter Try.func10, Try.ntmps10
  go_wp2_with fail
  clear hW0
  go_loopw [5, 6] (fun v i wr => ∃ (k s : Nat), k ≤ n ∧ v = .int .i64 s ∧ i = .int .i64 k ∧ s ≤ 35184372088832 ∧ (k ≠ 0 → s ≤ 3000) ∧ Hid (s = nbs + ngl + (k + nsl os k)) ∧ wr = W0) (fun _ i _ => n - (intOf i).toNat)
  case atStart => exact ⟨0, nbs + ngl, Nat.zero_le _, by go_num, rfl, by omega, fun h => absurd rfl h, (by simp [nsl] : nbs + ngl = _), rfl⟩
  case round =>
    obtain ⟨k, s, hk, rfl, rfl, hs1, hs2, HSS, rfl⟩ := hrel
    by_cases hlt : k < n
    · have hkn : (k : Int) < (n : Int) := by omega
      obtain ⟨o, ho⟩ : ∃ o, os[k]? = some o := ⟨os[k]'(by rw [Hn.out]; exact hlt), by simp [Hn.out, hlt]⟩
      obtain ⟨bo, off, ai, ci, hoa, hbl2, hoc, hse⟩ := HS0.out k o ho
      subst hoa
      have o8 : wr.cell? ⟨bo, off + k * 9 + 8, none⟩ = some (.slice ai o.sl.length ci) := hoc 8 (by decide)
      have NX := hide (show nsl os (k + 1) = nsl os k + o.sl.length by simp only [nsl, sls_at ho])
      have hml := NS.out k o ho
      obtain ⟨m, hm⟩ : ∃ m, o.sl.length = m := ⟨_, rfl⟩
      rw [hm] at o8 NX hml
      clear hoc hse ho hm
      have e1 : wrap64 (1 + (m : Int)) = 1 + (m : Int) := by unfold wrap64; omega
      have e2 : wrap64 ((s : Int) + (1 + (m : Int))) = ((s + (1 + m) : Nat) : Int) := by unfold wrap64; omega
      obtain ⟨t, ht⟩ : ∃ t, s + (1 + m) = t := ⟨_, rfl⟩
      rw [ht] at e2
      have E2 := hide e2
      have ht1 : t ≤ 70368744177665 := by omega
      have HT := hide (show t = nbs + ngl + (k + 1 + nsl os (k + 1)) by rw [← ht, NX.out, HSS.out]; omega)
      by_cases hg3 : 3000 < t
      · have g3 : (3000 : Int) < (t : Int) := by omega
        clear hs1 hs2 ht hml
        go_wp2_with fail
        go_ret
        exact ⟨true, rfl, fun h => (by cases h), HB0.out⟩
      · have g3 : ¬ (3000 : Int) < (t : Int) := by omega
        clear hs1 hs2 ht hml
        go_wp2_with fail
        clear e1 e2
        go_roundw
        case rel => exact ⟨k + 1, t, by omega, by first | rfl | rw [E2.out], by go_num, by omega, fun _ => by omega, HT.out, by first | rfl | trivial⟩
        case measure => simp [intOf]; omega
    · have hkn : ¬ (k : Int) < (n : Int) := by omega
      obtain rfl : k = n := by omega
      have SX := hide (show s ≤ 3000 → Sm c gl bs from fun h => SM.out (by have := HSS.out; rw [this] at h; rw [← Hn.out] at h ⊢; omega))
      by_cases hg3 : 3000 < s
      · have g3 : (3000 : Int) < (s : Int) := by omega
        clear hs1 hs2
        go_wp2_with fail
        go_ret
        exact ⟨true, rfl, fun h => (by cases h), HB0.out⟩
      · have g3 : ¬ (3000 : Int) < (s : Int) := by omega
        have SY := hide (SX.out (by omega))
        clear hs1 hs2
        go_wp2_with fail
        go_ret
        exact ⟨false, rfl, fun _ => SY.out, HB0.out⟩
end Hu
end Go.Proofs.Ytnodkeoikamonab
