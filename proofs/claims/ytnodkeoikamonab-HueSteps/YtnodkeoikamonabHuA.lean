/-
  Hue: lookOf, coloured
-/
import Derived.Test.YtnodkeoikamonabHuN
import Derived.Test.YtnodkeoikamonabGrG
namespace Go.Proofs.Ytnodkeoikamonab
open Go.RowKit
set_option linter.unusedVariables false
set_option linter.unusedSimpArgs false
set_option linter.unnecessarySimpa false
set_option maxRecDepth 20000
namespace Hu
open Gr
theorem infoC : (Try.prog.info? 69).map (fun i => (i.zero, i.size, i.bytes)) = some (some (.int .i64 0), 1, 8) := by kernel_rfl

set_option maxHeartbeats 1000000 in
theorem lookOf_ok {o : Ob} {ai : Option Addr} {m ci : Nat} {w : World} : Calls Try.prog 62 #[.agg #[.bool o.us, .bool o.li, .bool o.fi, .bool o.ta, .int .i64 o.ag, .int .u64 o.ge, .int .u64 o.lk, .int .u64 o.nx, .slice ai m ci]] w fun e w' => e = .returned (.int .i64 (look o)) ∧ Below w.heap.size w w' := by
  obtain ⟨us, li, fi, ta, ag, ge, lk, nx, sl⟩ := o
  simp only
  obtain ⟨W0, hW0, B0, R0⟩ := obox w us li fi ta ag ge lk nx ai m ci
  have HB0 := hide B0
  have c0 : W0.cell? ⟨w.heap.size, 0, none⟩ = some (.bool us) := R0.cell (i := 0) (by decide)
  have c1 : W0.cell? ⟨w.heap.size, 1, none⟩ = some (.bool li) := R0.cell (i := 1) (by decide)
  clear R0 B0
  cases us
  · have hl : look ⟨false, li, fi, ta, ag, ge, lk, nx, sl⟩ = 0 := by simp [look]
    rw [hl]
    clear hl
    go_enter Try.func62, Try.ntmps62
    go_wp2
    go_ret
    exact ⟨rfl, HB0.out⟩
  · cases li
    · have hl : look ⟨true, false, fi, ta, ag, ge, lk, nx, sl⟩ = 1 := by simp [look]
      rw [hl]
      clear hl
      go_enter Try.func62, Try.ntmps62
      go_wp2
      go_ret
      exact ⟨rfl, HB0.out⟩
    · have hl : look ⟨true, true, fi, ta, ag, ge, lk, nx, sl⟩ = 3 := by simp [look]
      rw [hl]
      clear hl
      go_enter Try.func62, Try.ntmps62
      go_wp2
      go_ret
      exact ⟨rfl, HB0.out⟩

/-- A colouring's value. -/
def kv (oa : Option Addr) (n cb g : Nat) : Value := .agg #[.slice oa n cb, .slice (some ⟨g, 0, none⟩) n n]
/-- What coloured tells. -/
def Kt (w w' : World) (e : Ending) (os : List Ob) (ws : List Int) (oa : Option Addr) (cb : Nat) : Prop := ∃ g, e = .returned (kv oa os.length cb g) ∧ w.heap.size ≤ g ∧ w'.rowIs g 69 os.length (fun i => .int .i64 (col os ws i)) ∧ Below w.heap.size w w'
def colk (os : List Ob) (k i : Nat) : Int := if i < k then col os [] i else 0
/-- What waits, so many lists looked at. -/
def wt (gl bs : List Int) (t : Nat) : List Int := if t = 0 then [] else if t = 1 then gl else gl ++ bs
theorem kbox (w : World) (a b : Value) : ∃ W0, w.alloc (.cells #[a, b] 67) = W0 ∧ Below w.heap.size w W0 ∧ W0.rowIs w.heap.size 67 2 (lrow [a, b]) := ⟨_, rfl, (Below.refl _ w).alloc (Nat.le_refl _) _, rowL_alloc w [a, b] _ rfl⟩

theorem mka (w : World) (n : Nat) (oa : Option Addr) (cb : Nat) : ((w.alloc (.cells (madeCells #[.int .i64 0] n) 69)).alloc (.cells #[.slice oa n cb, .slice (some ⟨w.heap.size, 0, none⟩) n n] 67)).drew.rowIs w.heap.size 69 n (fun _ => .int .i64 0) ∧ ((w.alloc (.cells (madeCells #[.int .i64 0] n) 69)).alloc (.cells #[.slice oa n cb, .slice (some ⟨w.heap.size, 0, none⟩) n n] 67)).drew.rowIs (w.heap.size + 1) 67 2 (lrow [.slice oa n cb, .slice (some ⟨w.heap.size, 0, none⟩) n n]) ∧ Below w.heap.size w ((w.alloc (.cells (madeCells #[.int .i64 0] n) 69)).alloc (.cells #[.slice oa n cb, .slice (some ⟨w.heap.size, 0, none⟩) n n] 67)).drew := by
  have b := rowL_alloc (w.alloc (.cells (madeCells #[.int .i64 0] n) 69)) [.slice oa n cb, .slice (some ⟨w.heap.size, 0, none⟩) n n] 67 rfl
  rw [World.size_alloc] at b
  exact ⟨((rows_made w (.int .i64 0) 69 n).alloc _).drew, b.drew, (((Below.refl _ w).alloc (Nat.le_refl _) _).alloc (by simp) _).drew⟩
theorem mkb (w : World) (n : Nat) (oa : Option Addr) (cb : Nat) : ((w.alloc (.cells #[.slice oa n cb, .slice (some ⟨w.heap.size + 1, 0, none⟩) n n] 67)).alloc (.cells (madeCells #[.int .i64 0] n) 69)).drew.rowIs (w.heap.size + 1) 69 n (fun _ => .int .i64 0) ∧ ((w.alloc (.cells #[.slice oa n cb, .slice (some ⟨w.heap.size + 1, 0, none⟩) n n] 67)).alloc (.cells (madeCells #[.int .i64 0] n) 69)).drew.rowIs w.heap.size 67 2 (lrow [.slice oa n cb, .slice (some ⟨w.heap.size + 1, 0, none⟩) n n]) ∧ Below w.heap.size w ((w.alloc (.cells #[.slice oa n cb, .slice (some ⟨w.heap.size + 1, 0, none⟩) n n] 67)).alloc (.cells (madeCells #[.int .i64 0] n) 69)).drew := by
  have b := rows_made (w.alloc (.cells #[.slice oa n cb, .slice (some ⟨w.heap.size + 1, 0, none⟩) n n] 67)) (.int .i64 0) 69 n
  rw [World.size_alloc] at b
  exact ⟨b.drew, ((rowL_alloc w [.slice oa n cb, .slice (some ⟨w.heap.size + 1, 0, none⟩) n n] 67 rfl).alloc _).drew, (((Below.refl _ w).alloc (Nat.le_refl _) _).alloc (by simp) _).drew⟩

set_option maxHeartbeats 8000000 in
theorem coloured_ok {c : Vc} {a : Av} {w : World} {gl bs : List Int} {ba : Option Addr} {bc : Nat} (hS : Sob w a.oa c.os) (hB : Bd c.os) (hng : a.ng = gl.length) (hG : SeesN w a.ga gl) (hL : SeesN w ba bs) (hgl : gl.length ≤ 17592186044416) (hbl : bs.length ≤ 17592186044416) :
    Calls Try.prog 45 #[vl c a, .slice ba bs.length bc] w fun e w' => Kt w w' e c.os (gl ++ bs) a.oa a.cb := by
  have hmk := run_make_row' (P := Try.prog) 65 69 _ 8 Try.underlying65 infoC rfl .i64 .i64 c.os.length (by have := hB.no; omega) (by have := hB.no; omega)
  obtain ⟨W0, hW0, B0, R0⟩ := vbox w c a
  have VF := hide (fun (wx : World) (hb : Below W0.heap.size W0 wx) => vcells (row_on R0 hb))
  have HB0 := hide B0
  have HS0 := hide (hS.below B0)
  have HG0 := hide (hG.below B0)
  have HL0 := hide (hL.below B0)
  have l0 : w.heap.size < W0.heap.size := R0.lt
  have hno := hB.no
  clear hS hB hG hL B0 R0
  obtain ⟨ph, co, ro, aa, na, ca, ra, cr, wa, nw, cw, oa, cb, fa, nf, cf, ga, ng, cg, qa, cq, k0, k1, k2, k3⟩ := a
  simp only [vl] at ⊢
  simp only at hW0 VF HS0 HG0 hng
  subst hng
  obtain ⟨n, hn⟩ : ∃ n, c.os.length = n := ⟨_, rfl⟩
  obtain ⟨nr, hnre⟩ : ∃ nr, c.rs.length = nr := ⟨_, rfl⟩
  obtain ⟨nqz, hnqe⟩ : ∃ nqz, c.qu.length = nqz := ⟨_, rfl⟩
  obtain ⟨ngl, hngl⟩ : ∃ ngl, gl.length = ngl := ⟨_, rfl⟩
  obtain ⟨nbs, hnbs⟩ : ∃ nbs, bs.length = nbs := ⟨_, rfl⟩
  simp only [hn, hnre, hnqe, hngl, hnbs] at hW0 VF hmk hno hgl hbl ⊢
  obtain ⟨os, hos⟩ : ∃ os, c.os = os := ⟨_, rfl⟩
  rw [hos] at HS0 hn
  simp only [hos] at ⊢
  have Hn := hide hn
  have Hgl := hide hngl
  have Hbs := hide hnbs
  clear hn hnre hnqe hos hngl hnbs
  obtain ⟨z, hz⟩ : ∃ z, W0.heap.size = z := ⟨_, rfl⟩
  have Hz := hide hz
  have c6 := (VF.out W0 (Below.refl _ _)).2.2.2.2.2.2.1
  obtain ⟨W1, hW1, B1, R1⟩ := kbox W0 (.slice none 0 0) (.slice none 0 0)
  rw [hz] at B1 R1
  have s1 : W1.heap.size = z + 1 := by rw [← hW1, ← hz]; simp
  have HB1 := hide B1
  have HR1 := hide R1
  rw [hz] at l0
  have c61 : W1.cell? ⟨w.heap.size, 6, none⟩ = some (.slice oa n cb) := (VF.out W1 (by rw [hz]; exact B1)).2.2.2.2.2.2.1
  clear B1 R1
  go_enter Try.func45, Try.ntmps45
  go_upto_region 1 with (fail)
  clear hW0 hW1
  go_cut [5] from 12 to 18 (fun s5 wy => ∃ g b, s5 = .pointer (some ⟨b, 0, none⟩) ∧ g ≠ b ∧ z < g ∧ z < b ∧ wy.rowIs g 69 n (fun _ => .int .i64 0) ∧ wy.rowIs b 67 2 (lrow [.slice oa n cb, .slice (some ⟨g, 0, none⟩) n n]) ∧ Below (z + 1) W1 wy)
  case first =>
    have q1 : w.heap.size < W1.heap.size := by omega
    have q2 : w.heap.size < W1.heap.size + 1 := by omega
    have Hs1 := hide s1
    clear s1 hz
    go_region
    all_goals go_wp2_with fail
    all_goals go_meet
    · exact ⟨W1.heap.size, W1.heap.size + 1, rfl, by omega, by rw [Hs1.out]; omega, by rw [Hs1.out]; omega, (mka W1 n oa cb).1, (mka W1 n oa cb).2.1, (mka W1 n oa cb).2.2.mono (Nat.le_of_eq Hs1.out.symm)⟩
    · exact ⟨W1.heap.size + 1, W1.heap.size, rfl, by omega, by rw [Hs1.out]; omega, by rw [Hs1.out]; omega, (mkb W1 n oa cb).1, (mkb W1 n oa cb).2.1, (mkb W1 n oa cb).2.2.mono (Nat.le_of_eq Hs1.out.symm)⟩
  case rest =>
    obtain ⟨g, b, e5, hgb, hg, hb, RG, RK, BK⟩ := hcut
    subst e5
    have HRG := hide RG
    have HRK := hide RK
    have HBK := hide BK
    have UP := hide (fun (wx : World) (h : Below (z + 1) W1 wx) => show Below W0.heap.size W0 wx by rw [Hz.out]; exact HB1.out.trans (h.mono (by omega)))
    clear RG RK BK hmk c61 c6 s1 hz
    have c6 := (VF.out wc (UP.out wc HBK.out)).2.2.2.2.2.2.1
    go_wp2_with fail
    clear c6
    go_loopw [22] (fun i wr => ∃ k : Nat, k ≤ n ∧ i = .int .i64 k ∧ Hid (wr.rowIs g 69 n (fun i => .int .i64 (colk os k i))) ∧ Hid (wr.rowIs b 67 2 (lrow [.slice oa n cb, .slice (some ⟨g, 0, none⟩) n n])) ∧ Hid (Below (z + 1) W1 wr)) (fun i _ => n - (intOf i).toNat)
    case atStart => exact ⟨0, Nat.zero_le _, rfl, HRG.out.congr (fun i hi => by simp [colk]), HRK.out, HBK.out⟩
    case round =>
      clear HRG HRK HBK
      obtain ⟨k, hk, rfl, HG, HK, HB⟩ := hrel
      by_cases hlt : k < n
      · have hkn : (k : Int) < (n : Int) := by omega
        obtain ⟨o, ho⟩ : ∃ o, os[k]? = some o := ⟨os[k]'(by rw [Hn.out]; exact hlt), by simp [Hn.out, hlt]⟩
        obtain ⟨bo, off, ai, ci, hoa, hbl2, hoc, hse⟩ := HS0.out.below (UP.out wr HB.out) k o ho
        subst hoa
        have LO := hide (show colk os (k + 1) k = look o by simp [colk, col_nil ho])
        have OC := hide (Ob.cells9 hoc)
        clear hoc hse ho
        obtain ⟨o0, o1, o2, o3, o4, o5, o6, o7, o8⟩ := OC.out
        have LK := hide (fun (w1 : World) => lookOf_ok (o := o) (ai := ai) (m := o.sl.length) (ci := ci) (w := w1))
        obtain ⟨lk0, hlk0⟩ : ∃ lk0, look o = lk0 := ⟨_, rfl⟩
        rw [hlk0] at LK LO
        obtain ⟨us, li, fi, ta, ag, ge, lk, nx, sl⟩ := o
        simp only at o0 o1 o2 o3 o4 o5 o6 o7 o8 LK
        clear hlk0 OC
        go_upto_region 5 with (fail)
        obtain ⟨W4, hW4, B4, R4⟩ := obox wr us li fi ta ag ge lk nx ai sl.length ci
        have HB4 := hide B4
        have hgl4 : g < wr.heap.size := HG.out.lt
        have hbl4 : b < wr.heap.size := HK.out.lt
        have OF := hide (fun (wx : World) (h1 : wx.heap[b]? = W4.heap[b]?) (h2 : wx.heap[wr.heap.size]? = W4.heap[wr.heap.size]?) => show wx.cell? ⟨b, 1, none⟩ = some (.slice (some ⟨g, 0, none⟩) n n) ∧ wx.cell? ⟨wr.heap.size, 0, none⟩ = some (.bool us) ∧ wx.cell? ⟨wr.heap.size, 1, none⟩ = some (.bool li) ∧ wx.cell? ⟨wr.heap.size, 2, none⟩ = some (.bool fi) ∧ wx.cell? ⟨wr.heap.size, 3, none⟩ = some (.bool ta) ∧ wx.cell? ⟨wr.heap.size, 4, none⟩ = some (.int .i64 ag) ∧ wx.cell? ⟨wr.heap.size, 5, none⟩ = some (.int .u64 ge) ∧ wx.cell? ⟨wr.heap.size, 6, none⟩ = some (.int .u64 lk) ∧ wx.cell? ⟨wr.heap.size, 7, none⟩ = some (.int .u64 nx) ∧ wx.cell? ⟨wr.heap.size, 8, none⟩ = some (.slice ai sl.length ci) from
          ⟨((row_on HK.out HB4.out).of_block h1).cell (i := 1) (by decide), (R4.of_block h2).cell (i := 0) (by decide), (R4.of_block h2).cell (i := 1) (by decide), (R4.of_block h2).cell (i := 2) (by decide), (R4.of_block h2).cell (i := 3) (by decide), (R4.of_block h2).cell (i := 4) (by decide), (R4.of_block h2).cell (i := 5) (by decide), (R4.of_block h2).cell (i := 6) (by decide), (R4.of_block h2).cell (i := 7) (by decide), (R4.of_block h2).cell (i := 8) (by decide)⟩)
        have hb4s : b < W4.heap.size := Nat.lt_of_lt_of_le hbl4 HB4.out.size
        have hr4s : wr.heap.size < W4.heap.size := R4.lt
        simp only [hW4]
        clear hW4 o0 o1 o2 o3 o4 o5 o6 o7 o8 R4 B4
        have D0 : Below W4.heap.size W4 W4.drew := ⟨rfl, rfl, rfl, Nat.le_refl _, fun _ _ => rfl⟩
        have K0 := OF.out W4.drew rfl rfl
        go_region_held (fun w' => w'.cell? ⟨b, 1, none⟩ = some (.slice (some ⟨g, 0, none⟩) n n) ∧ w'.cell? ⟨wr.heap.size, 0, none⟩ = some (.bool us) ∧ w'.cell? ⟨wr.heap.size, 1, none⟩ = some (.bool li) ∧ w'.cell? ⟨wr.heap.size, 2, none⟩ = some (.bool fi) ∧ w'.cell? ⟨wr.heap.size, 3, none⟩ = some (.bool ta) ∧ w'.cell? ⟨wr.heap.size, 4, none⟩ = some (.int .i64 ag) ∧ w'.cell? ⟨wr.heap.size, 5, none⟩ = some (.int .u64 ge) ∧ w'.cell? ⟨wr.heap.size, 6, none⟩ = some (.int .u64 lk) ∧ w'.cell? ⟨wr.heap.size, 7, none⟩ = some (.int .u64 nx) ∧ w'.cell? ⟨wr.heap.size, 8, none⟩ = some (.slice ai sl.length ci)) (first | exact K0 | exact K1 | exact KS _) ((go_at_call 62; refine (LK.out _).mono ?_; rintro e w1 ⟨rfl, hb1⟩; have HB5 := hide (D0.trans hb1); have K1 := OF.out w1 (HB5.out.block _ hb4s) (HB5.out.block _ hr4s); have KS := fun (v : Value) => OF.out (w1.setCell ⟨g, k, none⟩ v) ((Below.heap_setCell _ _ _ _ (fun e => hgb e.symm)).trans (HB5.out.block _ hb4s)) ((Below.heap_setCell _ _ _ _ (by simp only; omega)).trans (HB5.out.block _ hr4s)); have HG5 := hide (row_on (row_on HG.out HB4.out) HB5.out); have cG := HG5.out.cell hlt; have fG := HG5.out.frozen k; clear hb1))
        have hzb : z + 1 ≤ wr.heap.size := by omega
        have HK5 := hide (row_on (row_on HK.out HB4.out) HB5.out)
        have HBz := hide (show Below (z + 1) W1 w1 from (HB.out.trans (HB4.out.mono hzb)).trans (HB5.out.mono (by omega)))
        clear K0 K1 KS OF
        go_wp2_with fail
        go_roundw
        case rel =>
          refine ⟨k + 1, by omega, by go_num, ?_, HK5.out.setOther (fun e => hgb e.symm) _, HBz.out.setCell (by simp only; omega) _⟩
          refine (HG5.out.set k _).congr (fun i hi => ?_)
          by_cases e : i = k
          · subst e
            simp [LO.out]
          · have : (i < k + 1) ↔ i < k := by omega
            simp only [colk, this]
            rw [if_neg e]
        case measure => simp [intOf]; omega
      · have hkn : ¬ (k : Int) < (n : Int) := by omega
        have hke : k = n := by omega
        have HG1 := hide (show wr.rowIs g 69 n (fun i => .int .i64 (col os (wt gl bs 0) i)) from HG.out.congr (fun i hi => by simp [colk, wt, show i < k by omega]))
        have hk2 := hke
        clear hk hke hlt HG
        subst hk2
        have c8 := (VF.out wr (UP.out wr HB.out)).2.2.2.2.2.2.2.2.1
        obtain ⟨p, hp⟩ : ∃ p, wr.heap.size = p := ⟨_, rfl⟩
        have hgp : g < p := by rw [← hp]; exact HG1.out.lt
        have hbp : b < p := by rw [← hp]; exact HK.out.lt
        obtain ⟨W5, hW5⟩ : ∃ W5, wr.alloc (.cells #[.slice ga ngl cg, .slice ba nbs bc] 26) = W5 := ⟨_, rfl⟩
        have R5 := hide (show W5.rowIs p 26 2 (lrow [.slice ga ngl cg, .slice ba nbs bc]) by rw [← hW5, ← hp]; exact rowL_alloc wr [.slice ga ngl cg, .slice ba nbs bc] _ rfl)
        have B5 := hide (show Below p wr W5 by rw [← hW5, ← hp]; exact (Below.refl _ wr).alloc (Nat.le_refl _) _)
        have HG2 := hide (show W5.rowIs g 69 k (fun i => .int .i64 (col os (wt gl bs 0) i)) from HG1.out.of_block (B5.out.block g hgp))
        have HK2 := hide (show W5.rowIs b 67 2 (lrow [.slice oa k cb, .slice (some ⟨g, 0, none⟩) k k]) from HK.out.of_block (B5.out.block b hbp))
        have HB2 := hide (show Below (z + 1) W1 W5 from HB.out.trans (B5.out.mono (by omega)))
        go_wp2_with fail
        clear c8 hkn hW5 hp HG1 HK HB B5
        go_loopw [39] (fun i wr => ∃ t : Nat, t ≤ 2 ∧ i = .int .i64 t ∧ Hid (wr.rowIs g 69 k (fun i => .int .i64 (col os (wt gl bs t) i))) ∧ Hid (wr.rowIs b 67 2 (lrow [.slice oa k cb, .slice (some ⟨g, 0, none⟩) k k])) ∧ Hid (wr.rowIs p 26 2 (lrow [.slice ga ngl cg, .slice ba nbs bc])) ∧ Hid (Below (z + 1) W1 wr)) (fun i _ => 2 - (intOf i).toNat)
        case atStart => exact ⟨0, by omega, rfl, HG2.out, HK2.out, R5.out, HB2.out⟩
        case round =>
          clear HG2 HK2 R5 HB2
          obtain ⟨t, ht, rfl, HG, HK, HP, HB⟩ := hrel
          by_cases hlt : t < 2
          · have htn : (t : Int) < 2 := by omega
            obtain ⟨la, l, cl, m, hlm, hmb, hcl, hsl, hws⟩ : ∃ (la : Option Addr) (l : List Int) (cl m : Nat), l.length = m ∧ m ≤ 17592186044416 ∧ lrow [.slice ga ngl cg, .slice ba nbs bc] t = .slice la m cl ∧ SeesN W0 la l ∧ wt gl bs (t + 1) = wt gl bs t ++ l := by
              by_cases e : t = 0
              · subst e
                exact ⟨ga, gl, cg, ngl, Hgl.out, hgl, rfl, HG0.out, by simp [wt]⟩
              · obtain rfl : t = 1 := by omega
                exact ⟨ba, bs, bc, nbs, Hbs.out, hbl, rfl, HL0.out, by simp [wt]⟩
            have cp := HP.out.cell hlt
            rw [hcl] at cp
            have Hl := hide hlm
            have HSL := hide hsl
            have HWS := hide hws
            obtain ⟨pre, hpre⟩ : ∃ pre, wt gl bs t = pre := ⟨_, rfl⟩
            rw [hpre] at HG HWS
            clear hlm hsl hws hcl hpre
            obtain ⟨wo, rfl⟩ : ∃ wo, wo = wr := ⟨_, rfl⟩
            go_wp2_with fail
            clear cp
            go_loopw [45] (fun i wr => ∃ j : Nat, j ≤ m ∧ i = .int .i64 j ∧ Hid (wr.rowIs g 69 k (fun i => .int .i64 (col os (pre ++ l.take j) i))) ∧ Hid (wr.rowIs b 67 2 (lrow [.slice oa k cb, .slice (some ⟨g, 0, none⟩) k k])) ∧ Hid (wr.rowIs p 26 2 (lrow [.slice ga ngl cg, .slice ba nbs bc])) ∧ Hid (Below (z + 1) W1 wr)) (fun i _ => m - (intOf i).toNat)
            case atStart => exact ⟨0, Nat.zero_le _, rfl, HG.out.congr (fun i hi => by simp), HK.out, HP.out, HB.out⟩
            case round =>
              clear HG HK HP HB
              obtain ⟨j, hj, rfl, HG, HK, HP, HB⟩ := hrel
              by_cases hlt2 : j < m
              · have hjn : (j : Int) < (m : Int) := by omega
                obtain ⟨x, hx⟩ : ∃ x, l[j]? = some x := ⟨l[j]'(by rw [Hl.out]; exact hlt2), by simp [Hl.out, hlt2]⟩
                obtain ⟨b2, off2, hla, hbl2, hcc2⟩ := HSL.out.below (UP.out wr HB.out) j x hx
                subst hla
                have CS := hide (fun (i : Nat) => show col os (pre ++ l.take (j + 1)) i = if x = (i : Int) + 1 ∧ col os (pre ++ l.take j) i = 3 then 2 else col os (pre ++ l.take j) i by
                  rw [List.take_add_one, hx]
                  simp only [Option.toList, ← List.append_assoc]
                  exact col_snoc)
                have c6 := (VF.out wr (UP.out wr HB.out)).2.2.2.2.2.2.1
                have d1 : wr.cell? ⟨b, 1, none⟩ = some (.slice (some ⟨g, 0, none⟩) k k) := HK.out.cell (i := 1) (by decide)
                clear hx
                by_cases hxo : 1 ≤ x ∧ x ≤ (k : Int)
                · have IO := hide (fun w1 => isObj_yes (n := k) (oa := oa) (cb := cb) (w := w1) hxo)
                  obtain ⟨q, rfl⟩ : ∃ q : Nat, x = (q : Int) + 1 := ⟨x.toNat - 1, by omega⟩
                  have hq : q < k := by omega
                  have hq2 : (q : Int) < (k : Int) := by omega
                  have dG := HG.out.cell hq
                  have fG := HG.out.frozen q
                  obtain ⟨cq0, hcq⟩ : ∃ cq0, col os (pre ++ l.take j) q = cq0 := ⟨_, rfl⟩
                  rw [hcq] at dG
                  have Hcq := hide hcq
                  clear hcq hxo
                  by_cases h3 : cq0 = 3
                  · subst h3
                    have NX := hide (fun (i : Nat) => show (if i = q then Value.int .i64 2 else .int .i64 (col os (pre ++ l.take j) i)) = .int .i64 (col os (pre ++ l.take (j + 1)) i) by
                      rw [CS.out i]
                      by_cases e : i = q
                      · subst e; simp [Hcq.out]
                      · have : ¬ (q : Int) + 1 = (i : Int) + 1 := by omega
                        simp [e, this])
                    clear CS
                    go_wp2_with (go_at_call 51; refine (IO.out _).mono ?_; rintro e w1 ⟨rfl, hq⟩; obtain rfl := hq.symm; clear hq)
                    go_roundw
                    case rel =>
                      refine ⟨j + 1, by omega, by go_num, ?_, HK.out.setOther (fun e => hgb e.symm) _, HP.out.setOther (by simp only; omega) _, HB.out.setCell (by simp only; omega) _⟩
                      exact (HG.out.set q _).congr (fun i hi => NX.out i)
                    case measure => simp [intOf]; omega
                  · have h3b : (cq0 == 3) = false := by simp [h3]
                    have NX := hide (fun (i : Nat) => show Value.int .i64 (col os (pre ++ l.take j) i) = .int .i64 (col os (pre ++ l.take (j + 1)) i) by
                      rw [CS.out i]
                      by_cases e : i = q
                      · subst e; simp [Hcq.out, h3]
                      · have : ¬ (q : Int) + 1 = (i : Int) + 1 := by omega
                        simp [this])
                    clear CS
                    go_wp2_with (go_at_call 51; refine (IO.out _).mono ?_; rintro e w1 ⟨rfl, hq⟩; obtain rfl := hq.symm; clear hq)
                    go_roundw
                    case rel => exact ⟨j + 1, by omega, by go_num, HG.out.congr (fun i hi => NX.out i), HK.out, HP.out, HB.out⟩
                    case measure => simp [intOf]; omega
                · have IO := hide (fun w1 => isObj_no (n := k) (oa := oa) (cb := cb) (w := w1) hxo)
                  have NX := hide (fun (i : Nat) (hi : i < k) => show Value.int .i64 (col os (pre ++ l.take j) i) = .int .i64 (col os (pre ++ l.take (j + 1)) i) by
                    rw [CS.out i]
                    have : ¬ x = (i : Int) + 1 := fun e => hxo (by omega)
                    simp [this])
                  clear CS hxo
                  go_wp2_with (go_at_call 51; refine (IO.out _).mono ?_; rintro e w1 ⟨rfl, hq⟩; obtain rfl := hq.symm; clear hq)
                  go_roundw
                  case rel => exact ⟨j + 1, by omega, by go_num, HG.out.congr (fun i hi => NX.out i hi), HK.out, HP.out, HB.out⟩
                  case measure => simp [intOf]; omega
              · have hjn : ¬ (j : Int) < (m : Int) := by omega
                have e0 : l.take j = l := List.take_of_length_le (by rw [Hl.out]; omega)
                rw [e0] at HG
                go_wp2_with fail
                go_roundw
                case rel => exact ⟨t + 1, by omega, by go_num, (by show World.rowIs _ _ _ _ _; rw [HWS.out]; exact HG.out), HK.out, HP.out, HB.out⟩
                case measure => simp [intOf]; omega
          · have htn : ¬ (t : Int) < 2 := by omega
            obtain rfl : t = 2 := by omega
            have d0 : wr.cell? ⟨b, 0, none⟩ = some (.slice oa k cb) := HK.out.cell (i := 0) (by decide)
            have d1 : wr.cell? ⟨b, 1, none⟩ = some (.slice (some ⟨g, 0, none⟩) k k) := HK.out.cell (i := 1) (by decide)
            have RZ := hide (show wr.rowIs z 67 2 (lrow [.slice none 0 0, .slice none 0 0]) from HR1.out.of_block (HB.out.block z (by omega)))
            have e0 : wr.cell? ⟨z, 0, none⟩ = some (.slice none 0 0) := RZ.out.cell (i := 0) (by decide)
            have e1 : wr.cell? ⟨z, 1, none⟩ = some (.slice none 0 0) := RZ.out.cell (i := 1) (by decide)
            have f0 : ∀ i, wr.frozen? ⟨z, i, none⟩ = false := fun i => RZ.out.frozen i
            have BF := hide (show Below w.heap.size w wr from HB0.out.trans ((UP.out wr HB.out).mono (by rw [Hz.out]; omega)))
            go_wp2_with fail
            refine bodyPost_ret (v := kv oa k cb g) (by simp [results, Try.results45, go_sem, kv, *]) rfl ?_
            rw [← Hn.out] at *
            refine ⟨g, rfl, by omega, ?_, (BF.out.setCell (by simp only; omega) _).setCell (by simp only; omega) _⟩
            have := HG.out
            simp only [wt] at this
            exact (this.setOther (by simp only; omega) _).setOther (by simp only; omega) _
end Hu
end Go.Proofs.Ytnodkeoikamonab
