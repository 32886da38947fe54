/-
  Lemmas: VwLn.
-/
import Derived.Test.YtecjegjnnahddaaGreatTp25
import Derived.Test.YtecjegjnnahddaaGreatTp21
/-
  View: ViewLays: the law's copied, walked
-/
namespace Go.Proofs.YtecjegjnnahddaaGreat
open Go.RowKit
set_option linter.unusedVariables false
set_option linter.unusedSimpArgs false
set_option linter.unnecessarySimpa false
set_option maxRecDepth 20000
namespace Vw
open Shape
/-- What a view weighs: each list with a mark behind it has room. -/
structure Wt (c : Cv) : Prop where
  na : (c.na + 1) * 8 ≤ 140737488355328
  nr : (c.nr + 1) * 24 ≤ 140737488355328
  rn : ∀ j, j < c.nr → (c.rn j + 1) * 8 ≤ 140737488355328
  nw : (c.nw + 1) * 8 ≤ 140737488355328
  no : (c.no + 1) * 64 ≤ 140737488355328
  ns : ∀ j, j < c.no → ((c.ob j).ns + 1) * 8 ≤ 140737488355328
  fr : (c.fr.length + 1) * 8 ≤ 140737488355328
  gr : (c.gr.length + 1) * 8 ≤ 140737488355328
  qu : (c.qu.length + 1) * 8 ≤ 140737488355328
theorem callv1 {ev : Operand → Value} {o : Oper} {w : World} {f : FuncId} {x y : Operand} {ts : Array TypeId} {v0 : Value} (ho : o.op = Op.call { callee := Callee.value y, args := #[x], argTypes := ts }) (hy : ev y = .func (.func f) #[] #[]) (h0 : ev x = v0) (hcf : (callFunc f #[v0]).run Tryz.prog w = .ok (.enter f #[v0]) w) :
    (execOp ev o).run Tryz.prog w = .ok (.enter f #[v0]) w := by
  simp [execOp, ho, h0, hy, resolve, invoke, go_sem, hcf]
theorem Bx.hi {n vb : Nat} {w w1 : World} (h : Bx n vb w w1) {b i : Nat} (hb : n ≤ b) (hv : vb ≤ b) (v : Value) : Bx n vb w (w1.setCell ⟨b, i, none⟩ v) :=
  ⟨h.low.setCell (by simpa using hv) _, fun k h1 h2 => (Below.setCell (B := n) (Below.refl n w1) (p := ⟨b, i, none⟩) (by simpa using hb) v).block k h1 |>.trans (h.blk k h1 h2)⟩
theorem Bx.mn {n m vb : Nat} {w w1 : World} (h : Bx n vb w w1) (hm : m ≤ n) : Bx m vb w w1 := ⟨h.low, fun k h1 h2 => h.blk k (by omega) h2⟩
theorem Bx.dr {n vb : Nat} {w w1 : World} (h : Bx n vb w w1) : Bx n vb w { w1 with drawn := w1.drawn + 1 } := ⟨⟨h.low.os, h.low.tape, h.low.output, h.low.size, h.low.block⟩, h.blk⟩
theorem res_c {Q : Program} {fn : Func} {tmps : Array Value} {W : World} {v : Value} {a : Addr} {t : Nat} {ty : TypeId} (hf : fn.results = #[.cell t ty]) (ht : tmps.getD t undef = .pointer (some a)) (hl : (loadVar ty a).run Q W = .ok v W) : (results fn tmps).run Q W = .ok v W := by
  have ha : (asAddr (.pointer (some a))).run Q W = .ok a W := rfl
  unfold results
  rw [hf]
  simp only [Array.mapM_eq_mapM_toList, List.mapM_cons, List.mapM_nil, ht, Sem.run_bind, ha, hl, Result.andThen_ok, Sem.run_pure, bind_assoc, pure_bind, map_eq_pure_bind]
  rfl
theorem sets14 {w' w0 : World} {rb n : Nat} {Z : List Value} (hR : w'.rowIs rb 31 14 (lrow Z)) (hZ : Z.length = 14) (h0 : Below n w0 w') (hn : n ≤ rb) (v0 v1 v2 v3 v4 v5 v6 v7 v8 v9 v10 v11 v12 v13 : Value) :
    ((((((((((((((w'.setCell ⟨rb, 0, none⟩ v0).setCell ⟨rb, 1, none⟩ v1).setCell ⟨rb, 2, none⟩ v2).setCell ⟨rb, 3, none⟩ v3).setCell ⟨rb, 4, none⟩ v4).setCell ⟨rb, 5, none⟩ v5).setCell ⟨rb, 6, none⟩ v6).setCell ⟨rb, 7, none⟩ v7).setCell ⟨rb, 8, none⟩ v8).setCell ⟨rb, 9, none⟩ v9).setCell ⟨rb, 10, none⟩ v10).setCell ⟨rb, 11, none⟩ v11).setCell ⟨rb, 12, none⟩ v12).setCell ⟨rb, 13, none⟩ v13).rowIs rb 31 14 (lrow [v0, v1, v2, v3, v4, v5, v6, v7, v8, v9, v10, v11, v12, v13]) ∧ Below n w0 ((((((((((((((w'.setCell ⟨rb, 0, none⟩ v0).setCell ⟨rb, 1, none⟩ v1).setCell ⟨rb, 2, none⟩ v2).setCell ⟨rb, 3, none⟩ v3).setCell ⟨rb, 4, none⟩ v4).setCell ⟨rb, 5, none⟩ v5).setCell ⟨rb, 6, none⟩ v6).setCell ⟨rb, 7, none⟩ v7).setCell ⟨rb, 8, none⟩ v8).setCell ⟨rb, 9, none⟩ v9).setCell ⟨rb, 10, none⟩ v10).setCell ⟨rb, 11, none⟩ v11).setCell ⟨rb, 12, none⟩ v12).setCell ⟨rb, 13, none⟩ v13) ∧ ∀ b, b ≠ rb → ((((((((((((((w'.setCell ⟨rb, 0, none⟩ v0).setCell ⟨rb, 1, none⟩ v1).setCell ⟨rb, 2, none⟩ v2).setCell ⟨rb, 3, none⟩ v3).setCell ⟨rb, 4, none⟩ v4).setCell ⟨rb, 5, none⟩ v5).setCell ⟨rb, 6, none⟩ v6).setCell ⟨rb, 7, none⟩ v7).setCell ⟨rb, 8, none⟩ v8).setCell ⟨rb, 9, none⟩ v9).setCell ⟨rb, 10, none⟩ v10).setCell ⟨rb, 11, none⟩ v11).setCell ⟨rb, 12, none⟩ v12).setCell ⟨rb, 13, none⟩ v13).heap[b]? = w'.heap[b]? := by
  refine ⟨?_, ((((((((((((((h0.setCell (show n ≤ rb from hn) v0).setCell (show n ≤ rb from hn) v1).setCell (show n ≤ rb from hn) v2).setCell (show n ≤ rb from hn) v3).setCell (show n ≤ rb from hn) v4).setCell (show n ≤ rb from hn) v5).setCell (show n ≤ rb from hn) v6).setCell (show n ≤ rb from hn) v7).setCell (show n ≤ rb from hn) v8).setCell (show n ≤ rb from hn) v9).setCell (show n ≤ rb from hn) v10).setCell (show n ≤ rb from hn) v11).setCell (show n ≤ rb from hn) v12).setCell (show n ≤ rb from hn) v13), fun b hb => ?_⟩
  · have h := (row_set (row_set (row_set (row_set (row_set (row_set (row_set (row_set (row_set (row_set (row_set (row_set (row_set (row_set hR (by simp [hZ]) 0 v0) (by simp [hZ]) 1 v1) (by simp [hZ]) 2 v2) (by simp [hZ]) 3 v3) (by simp [hZ]) 4 v4) (by simp [hZ]) 5 v5) (by simp [hZ]) 6 v6) (by simp [hZ]) 7 v7) (by simp [hZ]) 8 v8) (by simp [hZ]) 9 v9) (by simp [hZ]) 10 v10) (by simp [hZ]) 11 v11) (by simp [hZ]) 12 v12) (by simp [hZ]) 13 v13)
    match Z, hZ with
    | [z0, z1, z2, z3, z4, z5, z6, z7, z8, z9, z10, z11, z12, z13], _ => exact h
  · iterate 14 rw [Below.heap_setCell _ _ _ _ (show b ≠ rb from hb)]
def S2 (W : World) (zb ub : Nat) (LL : List Value) (P0 P1 : World → Value → Prop) : Nat → (Nat → Value) → World → Prop
  | 0, s, w => Bx zb ub W w ∧ w.rowIs ub 31 14 (lrow LL)
  | 1, s, w => Bx zb ub W w ∧ w.rowIs ub 31 14 (lrow LL) ∧ P0 w (s 12)
  | 2, s, w => Bx zb ub W w ∧ w.rowIs ub 31 14 (lrow LL) ∧ P0 w (s 12) ∧ P1 w (s 15)
  | 3, s, w => Bx zb ub W w ∧ w.rowIs ub 31 14 (lrow (LL.set 3 (s 12))) ∧ P0 w (s 12) ∧ P1 w (s 15)
  | _, s, w => Bx zb ub W w ∧ w.rowIs ub 31 14 (lrow ((LL.set 3 (s 12)).set 5 (s 15))) ∧ P0 w (s 12) ∧ P1 w (s 15)
theorem S2.local {W : World} {zb ub : Nat} {LL : List Value} {P0 P1 : World → Value → Prop} {n : Nat} {s s' : Nat → Value} {w : World} (h0 : s 12 = s' 12) (h1 : s 15 = s' 15) (h : S2 W zb ub LL P0 P1 n s w) : S2 W zb ub LL P0 P1 n s' w := by
  match n, h with
  | 0, h => exact h
  | 1, h => simp only [S2] at h ⊢; rw [← h0]; exact h
  | 2, h => simp only [S2] at h ⊢; rw [← h0, ← h1]; exact h
  | 3, h => simp only [S2] at h ⊢; rw [← h0, ← h1]; exact h
  | n + 4, h => simp only [S2] at h ⊢; rw [← h0, ← h1]; exact h
theorem S2.bx {W : World} {zb ub : Nat} {LL : List Value} {P0 P1 : World → Value → Prop} {n : Nat} {s : Nat → Value} {w : World} (h : S2 W zb ub LL P0 P1 n s w) : Bx zb ub W w := by
  match n, h with
  | 0, h => exact h.1
  | 1, h => exact h.1
  | 2, h => exact h.1
  | 3, h => exact h.1
  | n + 4, h => exact h.1
def S3 (W : World) (zb ub : Nat) (LL : List Value) (P0 P1 P2 : World → Value → Prop) : Nat → (Nat → Value) → World → Prop
  | 0, s, w => Bx zb ub W w ∧ w.rowIs ub 31 14 (lrow LL)
  | 1, s, w => Bx zb ub W w ∧ w.rowIs ub 31 14 (lrow LL) ∧ P0 w (s 56)
  | 2, s, w => Bx zb ub W w ∧ w.rowIs ub 31 14 (lrow LL) ∧ P0 w (s 56) ∧ P1 w (s 60)
  | 3, s, w => Bx zb ub W w ∧ w.rowIs ub 31 14 (lrow LL) ∧ P0 w (s 56) ∧ P1 w (s 60) ∧ P2 w (s 64)
  | 4, s, w => Bx zb ub W w ∧ w.rowIs ub 31 14 (lrow (LL.set 7 (s 56))) ∧ P0 w (s 56) ∧ P1 w (s 60) ∧ P2 w (s 64)
  | 5, s, w => Bx zb ub W w ∧ w.rowIs ub 31 14 (lrow ((LL.set 7 (s 56)).set 8 (s 60))) ∧ P0 w (s 56) ∧ P1 w (s 60) ∧ P2 w (s 64)
  | _, s, w => Bx zb ub W w ∧ w.rowIs ub 31 14 (lrow (((LL.set 7 (s 56)).set 8 (s 60)).set 9 (s 64))) ∧ P0 w (s 56) ∧ P1 w (s 60) ∧ P2 w (s 64)
theorem S3.local {W : World} {zb ub : Nat} {LL : List Value} {P0 P1 P2 : World → Value → Prop} {n : Nat} {s s' : Nat → Value} {w : World} (h0 : s 56 = s' 56) (h1 : s 60 = s' 60) (h2 : s 64 = s' 64) (h : S3 W zb ub LL P0 P1 P2 n s w) : S3 W zb ub LL P0 P1 P2 n s' w := by
  match n, h with
  | 0, h => exact h
  | 1, h => simp only [S3] at h ⊢; rw [← h0]; exact h
  | 2, h => simp only [S3] at h ⊢; rw [← h0, ← h1]; exact h
  | 3, h => simp only [S3] at h ⊢; rw [← h0, ← h1, ← h2]; exact h
  | 4, h => simp only [S3] at h ⊢; rw [← h0, ← h1, ← h2]; exact h
  | 5, h => simp only [S3] at h ⊢; rw [← h0, ← h1, ← h2]; exact h
  | n + 6, h => simp only [S3] at h ⊢; rw [← h0, ← h1, ← h2]; exact h
theorem S3.bx {W : World} {zb ub : Nat} {LL : List Value} {P0 P1 P2 : World → Value → Prop} {n : Nat} {s : Nat → Value} {w : World} (h : S3 W zb ub LL P0 P1 P2 n s w) : Bx zb ub W w := by
  match n, h with
  | 0, h => exact h.1
  | 1, h => exact h.1
  | 2, h => exact h.1
  | 3, h => exact h.1
  | 4, h => exact h.1
  | 5, h => exact h.1
  | n + 6, h => exact h.1

set_option maxHeartbeats 32000000 in
theorem copied_ok {c : Cv} {av : Av} {w : World} (hS : Shows w c av) (hN : Nv w c av) (hW : Wt c) :
    Calls Tryz.prog 5 #[vl c av] w fun e w' => (∃ a2, e = .returned (vl c a2) ∧ Hid (Mk w' w.heap.size c a2)) ∧ Below w.heap.size w w' := by
  obtain ⟨W0, hW0, B0, R0⟩ := vbox w c av
  obtain ⟨W1, hW1⟩ : ∃ W1, W0.alloc (.cells #[.int .i64 0, .int .i64 0, .int .u64 0, .slice none 0 0, .slice none 0 0, .slice none 0 0, .slice none 0 0, .slice none 0 0, .slice none 0 0, .slice none 0 0, .int .u64 0, .int .u64 0, .int .u64 0, .int .u64 0] 31) = W1 := ⟨_, rfl⟩
  have R1 : W1.rowIs W0.heap.size 31 14 (lrow [.int .i64 0, .int .i64 0, .int .u64 0, .slice none 0 0, .slice none 0 0, .slice none 0 0, .slice none 0 0, .slice none 0 0, .slice none 0 0, .slice none 0 0, .int .u64 0, .int .u64 0, .int .u64 0, .int .u64 0]) := by rw [← hW1]; exact rowL_alloc W0 [.int .i64 0, .int .i64 0, .int .u64 0, .slice none 0 0, .slice none 0 0, .slice none 0 0, .slice none 0 0, .slice none 0 0, .slice none 0 0, .slice none 0 0, .int .u64 0, .int .u64 0, .int .u64 0, .int .u64 0] _ rfl
  have B1 : Below W0.heap.size W0 W1 := by rw [← hW1]; exact (Below.refl _ W0).alloc (Nat.le_refl _) _
  obtain ⟨W2, hW2⟩ : ∃ W2, W1.alloc (.cells #[.int .i64 c.ph, .int .i64 c.co, .int .u64 c.ro, .slice av.aa c.na av.ca, .slice av.ra c.nr av.cr, .slice av.wa c.nw av.cw, .slice av.oa c.no av.cb, .slice av.fa c.fr.length av.cf, .slice av.ga c.gr.length av.cg, .slice av.qa c.qu.length av.cq, .int .u64 (c.cn 0), .int .u64 (c.cn 1), .int .u64 (c.cn 2), .int .u64 (c.cn 3)] 31) = W2 := ⟨_, rfl⟩
  have R2 := hide (show W2.rowIs W1.heap.size 31 14 (lrow [.int .i64 c.ph, .int .i64 c.co, .int .u64 c.ro, .slice av.aa c.na av.ca, .slice av.ra c.nr av.cr, .slice av.wa c.nw av.cw, .slice av.oa c.no av.cb, .slice av.fa c.fr.length av.cf, .slice av.ga c.gr.length av.cg, .slice av.qa c.qu.length av.cq, .int .u64 (c.cn 0), .int .u64 (c.cn 1), .int .u64 (c.cn 2), .int .u64 (c.cn 3)]) by rw [← hW2]; exact rowL_alloc W1 [.int .i64 c.ph, .int .i64 c.co, .int .u64 c.ro, .slice av.aa c.na av.ca, .slice av.ra c.nr av.cr, .slice av.wa c.nw av.cw, .slice av.oa c.no av.cb, .slice av.fa c.fr.length av.cf, .slice av.ga c.gr.length av.cg, .slice av.qa c.qu.length av.cq, .int .u64 (c.cn 0), .int .u64 (c.cn 1), .int .u64 (c.cn 2), .int .u64 (c.cn 3)] _ rfl)
  have B2 : Below W1.heap.size W1 W2 := by rw [← hW2]; exact (Below.refl _ W1).alloc (Nat.le_refl _) _
  have l0 : w.heap.size < W0.heap.size := R0.lt
  have l1 : W0.heap.size < W1.heap.size := R1.lt
  have l2 : W1.heap.size < W2.heap.size := R2.out.lt
  have y01 := (row_on R0 B1)
  have RT := hide (row_on (row_on R0 B1) B2)
  have RR := hide (row_on R1 B2)
  have HB2 := hide (B0.trans ((B1.trans (B2.mono B1.size)).mono B0.size))
  have SV := hide (fun (V : World) (hb : Bx W2.heap.size W1.heap.size W2 V) => hS.below (HB2.out.trans (hb.low.mono (by omega))))
  have NV := hide (fun (V : World) (hb : Bx W2.heap.size W1.heap.size W2 V) => hN.below hS (HB2.out.trans (hb.low.mono (by omega))))
  have RTV := hide (fun (V : World) (hb : Bx W2.heap.size W1.heap.size W2 V) => hb.row RT.out (by omega) (by omega))
  have HW := hide hW
  have hnr : (c.nr : Int) ≤ 9223372036854775807 := by have := hW.nr; omega
  have hno : (c.no : Int) ≤ 9223372036854775807 := by have := hW.no; omega
  obtain ⟨iS, hiS, hzS, hsS, hyS⟩ := infoS
  obtain ⟨iO, zO, hiO, hzO, hsO, hyO, hcO⟩ := infoO
  have y0 := y01.cell (i := 0) (by decide)
  have y1 := y01.cell (i := 1) (by decide)
  have y2 := y01.cell (i := 2) (by decide)
  have y3 := y01.cell (i := 3) (by decide)
  have y4 := y01.cell (i := 4) (by decide)
  have y5 := y01.cell (i := 5) (by decide)
  have y6 := y01.cell (i := 6) (by decide)
  have y7 := y01.cell (i := 7) (by decide)
  have y8 := y01.cell (i := 8) (by decide)
  have y9 := y01.cell (i := 9) (by decide)
  have y10 := y01.cell (i := 10) (by decide)
  have y11 := y01.cell (i := 11) (by decide)
  have y12 := y01.cell (i := 12) (by decide)
  have y13 := y01.cell (i := 13) (by decide)
  simp only [lrow] at y0 y1 y2 y3 y4 y5 y6 y7 y8 y9 y10 y11 y12 y13
  clear hS hN hW B0 B1 B2 R0 R1 y01
  simp only [vl]
  go_enter Tryz.func5, Tryz.ntmps5
  go_upto_region 1 with (fail)
  try simp only [hW0]
  try simp only [hW1]
  go_upto_region 2 with (fail)
  try simp only [hW2]
  clear hW0 hW1 hW2 y0 y1 y2 y3 y4 y5 y6 y7 y8 y9 y10 y11 y12 y13
  obtain ⟨zb, hzb⟩ : ∃ zb, W2.heap.size = zb := ⟨_, rfl⟩
  obtain ⟨ub, hub⟩ : ∃ ub, W1.heap.size = ub := ⟨_, rfl⟩
  obtain ⟨tb, htb⟩ : ∃ tb, w.heap.size = tb := ⟨_, rfl⟩
  have ZB := hide hzb
  have TB := hide htb
  rw [hzb, hub] at SV NV RTV l2
  rw [hub] at R2 l1
  rw [htb] at RTV l0
  simp only [hub, htb]
  clear hzb hub htb RT
  have LA := hide (fun (V : World) (hb : Bx zb ub W2 V) => lent_ok (cap := av.ca) (SV.out V hb).ac (fun e => ⟨by have h5 := (SV.out V hb).ac; rw [e] at h5; exact sees_nil h5, (NV.out V hb).ac e⟩) HW.out.na)
  have LW := hide (fun (V : World) (hb : Bx zb ub W2 V) => lent_ok (cap := av.cw) (SV.out V hb).wk (fun e => ⟨by have h5 := (SV.out V hb).wk; rw [e] at h5; exact sees_nil h5, (NV.out V hb).wk e⟩) HW.out.nw)
  refine LtH.region2 (ks := [(0, 10), (1, 11), (3, 13), (4, 14), (6, 16), (8, 17)]) (vals := fun iv => match iv with | 0 => .pointer (some ⟨tb, 3, none⟩) | 1 => .slice av.aa c.na av.ca | 3 => .pointer (some ⟨tb, 5, none⟩) | 4 => .slice av.wa c.nw av.cw | 6 => .pointer (some ⟨ub, 3, none⟩) | 8 => .pointer (some ⟨ub, 5, none⟩) | _ => undef) (xs := [12, 15]) (WI := LtC.WI [2, 5, 7, 9] 7 6 (S2 W2 zb ub [.int .i64 c.ph, .int .i64 c.co, .int .u64 c.ro, .slice av.aa c.na av.ca, .slice av.ra c.nr av.cr, .slice av.wa c.nw av.cw, .slice av.oa c.no av.cb, .slice av.fa c.fr.length av.cf, .slice av.ga c.gr.length av.cg, .slice av.qa c.qu.length av.cq, .int .u64 (c.cn 0), .int .u64 (c.cn 1), .int .u64 (c.cn 2), .int .u64 (c.cn 3)] (fun w1 v => Ln w1 zb c.na c.ac v) (fun w1 v => Ln w1 zb c.nw c.wk v))) (by kernel_rfl) ?Agd ?Abk rfl ?Add ?Axx ?Alc ?Ast ?Ado ?Afi
  case Agd =>
    intro iq oq ho
    have hiq : iq < 10 := by have := (Array.getElem?_eq_some_iff.1 ho).1; simpa using this
    match iq, hiq with
    | 0, _ | 1, _ | 2, _ | 3, _ | 4, _ | 5, _ | 6, _ | 7, _ | 8, _ | 9, _ => injection ho with ho; subst ho; rfl
  case Abk =>
    intro iq oq ho
    have hiq : iq < 10 := by have := (Array.getElem?_eq_some_iff.1 ho).1; simpa using this
    match iq, hiq with
    | 0, _ | 1, _ | 2, _ | 3, _ | 4, _ | 5, _ | 6, _ | 7, _ | 8, _ | 9, _ => injection ho with ho; subst ho; simp [Region.binds]
  case Add =>
    intro kq hk
    have hk2 : kq < 69 := by
      simp [Lt.D] at hk
      omega
    exact hk2
  case Axx =>
    intro kq hk
    have hk2 : kq < 69 := by
      simp at hk
      omega
    exact hk2
  case Alc =>
    rintro L s1 s2 w1 hx ⟨⟨n1, h1, h2, h3⟩, h4⟩
    exact ⟨⟨n1, h1, h2, S2.local (hx 12 rfl) (hx 15 rfl) h3⟩, h4⟩
  case Ast => exact LtC.WI.start ⟨(Bx.refl _ _ _).dr, R2.out⟩
  case Ado =>
    intro iq oq ho
    have hiq : iq < 10 := by have := (Array.getElem?_eq_some_iff.1 ho).1; simpa using this
    match iq, hiq with
    | 0, _ => injection ho with ho; subst ho; exact LtC.read rfl rfl rfl (fun L a w' hI hL hq => Lt.ex_field rfl (hI.fix 1 (Lt.notD rfl) rfl) (by simp [go_sem]))
    | 1, _ => injection ho with ho; subst ho; exact LtC.read rfl rfl rfl (fun L a w' hI hL hq => Lt.ex_load rfl (hI.pure 0 _ _ rfl (hq ⟨0, .data⟩ (by simp) rfl)) (by simp [go_sem]) (by obtain ⟨n1, hn1⟩ := hI.world.any; exact (RTV.out _ (S2.bx hn1)).cell (i := 3) (by decide)))
    | 2, _ => injection ho with ho; subst ho; exact LtC.call (m := 0) (args := fun _ => #[.slice av.aa c.na av.ca]) (by decide) rfl rfl rfl rfl (fun L _ e => absurd e (by decide)) (fun L hq m1 j1 e1 _ => absurd e1 (by omega)) (fun L a w' hI hq hS => Lt.call1 rfl (hI.pure 1 _ _ rfl (hq ⟨1, .data⟩ (by simp) rfl)) rfl (by simp [go_sem])) (fun s1 w1 hS => by obtain ⟨hbx, hrw⟩ := hS; refine (LA.out w1 hbx).mono ?_; rintro e w2 ⟨⟨g, gc, rfl, hgc, HO2⟩, hb2⟩; have hsz : zb ≤ w1.heap.size := (by have := hbx.low.size; rw [ZB.out] at this; exact this); exact ⟨_, rfl, hbx.below hb2 (by rw [ZB.out]; exact Nat.le_refl _) (by rw [ZB.out]; omega), row_on hrw hb2, g, gc, by simp, hgc, owns_low HO2.out hsz⟩)
    | 3, _ => injection ho with ho; subst ho; exact LtC.read rfl rfl rfl (fun L a w' hI hL hq => Lt.ex_field rfl (hI.fix 1 (Lt.notD rfl) rfl) (by simp [go_sem]))
    | 4, _ => injection ho with ho; subst ho; exact LtC.read rfl rfl rfl (fun L a w' hI hL hq => Lt.ex_load rfl (hI.pure 3 _ _ rfl (hq ⟨3, .data⟩ (by simp) rfl)) (by simp [go_sem]) (by obtain ⟨n1, hn1⟩ := hI.world.any; exact (RTV.out _ (S2.bx hn1)).cell (i := 5) (by decide)))
    | 5, _ => injection ho with ho; subst ho; exact LtC.call (m := 1) (args := fun _ => #[.slice av.wa c.nw av.cw]) (by decide) rfl rfl rfl rfl (fun L _ e => absurd e (by decide)) (fun L hq m1 j1 e1 hj => by (cases (show m1 = 0 from (by omega))); cases hj; exact hq ⟨2, .chain⟩ (by simp) rfl) (fun L a w' hI hq hS => Lt.call1 rfl (hI.pure 4 _ _ rfl (hq ⟨4, .data⟩ (by simp) rfl)) rfl (by simp [go_sem])) (fun s1 w1 hS => by obtain ⟨hbx, hrw, hp0⟩ := hS; refine (LW.out w1 hbx).mono ?_; rintro e w2 ⟨⟨g, gc, rfl, hgc, HO2⟩, hb2⟩; have hsz : zb ≤ w1.heap.size := (by have := hbx.low.size; rw [ZB.out] at this; exact this); exact ⟨_, rfl, hbx.below hb2 (by rw [ZB.out]; exact Nat.le_refl _) (by rw [ZB.out]; omega), row_on hrw hb2, by simpa using hp0.on hb2, g, gc, by simp, hgc, owns_low HO2.out hsz⟩)
    | 6, _ => injection ho with ho; subst ho; exact LtC.read rfl rfl rfl (fun L a w' hI hL hq => Lt.ex_field rfl (hI.fix 3 (Lt.notD rfl) rfl) (by simp [go_sem]))
    | 7, _ => injection ho with ho; subst ho; exact LtC.store (m := 2) (by decide) rfl rfl rfl (fun L hq e => hq ⟨6, .data⟩ (by simp) rfl) (fun L hq m1 j1 e1 hj => by (cases (show m1 = 1 from (by omega))); cases hj; exact hq ⟨5, .chain⟩ (by simp) rfl) (fun L a w' Kq hI hq hS hk => by obtain ⟨hbx, hrw, hp0, hp1⟩ := hS; obtain ⟨g, gc, e4, -⟩ := id hp0; exact wp_storeS rfl rfl (hI.pure 6 _ _ rfl (hq ⟨6, .data⟩ (by simp) rfl)) e4 (by kernel_rfl) (hrw.cell (i := 3) (by decide)) (hrw.frozen 3) (hk undef _ ⟨hbx.set _ _, by have e5 : a.eval (.tmp 12) = _ := e4; simp only [e5]; exact row_set hrw rfl 3 _, hp0.set l2 _, hp1.set l2 _⟩))
    | 8, _ => injection ho with ho; subst ho; exact LtC.read rfl rfl rfl (fun L a w' hI hL hq => Lt.ex_field rfl (hI.fix 3 (Lt.notD rfl) rfl) (by simp [go_sem]))
    | 9, _ => injection ho with ho; subst ho; exact LtC.store (m := 3) (by decide) rfl rfl rfl (fun L _ e => absurd e (by decide)) (fun L hq m1 j1 e1 hj => by (cases (show m1 = 2 from (by omega))); cases hj; exact hq ⟨7, .chain⟩ (by simp) rfl) (fun L a w' Kq hI hq hS hk => by obtain ⟨hbx, hrw, hp0, hp1⟩ := hS; obtain ⟨g, gc, e4, -⟩ := id hp1; exact wp_storeS rfl rfl (hI.pure 8 _ _ rfl (hq ⟨8, .data⟩ (by simp) rfl)) e4 (by kernel_rfl) (hrw.cell (i := 5) (by decide)) (hrw.frozen 5) (hk undef _ ⟨hbx.set _ _, by have e5 : a.eval (.tmp 15) = _ := e4; simp only [e5]; exact row_set hrw rfl 5 _, hp0.set l2 _, hp1.set l2 _⟩))
  case Afi =>
    intro L a' w' hI hall
    have hdone := hI.world.done (fun i hi => hall i (by simp at hi ⊢; omega))
    have hfr2 := LtH.frame hI [10, 11, 12, 13, 14, 15, 16, 17] rfl rfl (fun x hx => by simp at hx ⊢; omega)
    obtain ⟨t10, e10⟩ : ∃ t, a'.eval (.tmp 10) = t := ⟨_, rfl⟩
    obtain ⟨t11, e11⟩ : ∃ t, a'.eval (.tmp 11) = t := ⟨_, rfl⟩
    obtain ⟨t12, e12⟩ : ∃ t, a'.eval (.tmp 12) = t := ⟨_, rfl⟩
    obtain ⟨t13, e13⟩ : ∃ t, a'.eval (.tmp 13) = t := ⟨_, rfl⟩
    obtain ⟨t14, e14⟩ : ∃ t, a'.eval (.tmp 14) = t := ⟨_, rfl⟩
    obtain ⟨t15, e15⟩ : ∃ t, a'.eval (.tmp 15) = t := ⟨_, rfl⟩
    obtain ⟨t16, e16⟩ : ∃ t, a'.eval (.tmp 16) = t := ⟨_, rfl⟩
    obtain ⟨t17, e17⟩ : ∃ t, a'.eval (.tmp 17) = t := ⟨_, rfl⟩
    obtain ⟨hbx, hrw, hp0, hp1⟩ := hdone
    simp only [e12, e15] at hrw hp0 hp1
    rw [hfr2]
    simp only [LtH.lay, List.foldl, e10, e11, e12, e13, e14, e15, e16, e17]
    have BX3 := hide hbx
    have HPA := hide hp0
    have HPW := hide hp1
    have R3 := hide hrw
    clear hfr2 hI hall e10 e11 e12 e13 e14 e15 e16 e17 hbx hrw hp0 hp1
    simp only [Act.put, List.setIfInBounds_toArray, List.set_cons_succ, List.set_cons_zero]
    obtain ⟨ga, ca2, rfl, hca, hoa⟩ := HPA.out
    obtain ⟨gw, cw2, rfl, hcw, how⟩ := HPW.out
    have NA := hide (show Ln w' zb c.na c.ac (.slice (some ⟨ga, 0, none⟩) c.na ca2) from ⟨ga, ca2, rfl, hca, hoa⟩)
    have NW := hide (show Ln w' zb c.nw c.wk (.slice (some ⟨gw, 0, none⟩) c.nw cw2) from ⟨gw, cw2, rfl, hcw, how⟩)
    have R3 := hide (show w'.rowIs ub 31 14 (lrow [.int .i64 c.ph, .int .i64 c.co, .int .u64 c.ro, .slice (some ⟨ga, 0, none⟩) c.na ca2, .slice av.ra c.nr av.cr, .slice (some ⟨gw, 0, none⟩) c.nw cw2, .slice av.oa c.no av.cb, .slice av.fa c.fr.length av.cf, .slice av.ga c.gr.length av.cg, .slice av.qa c.qu.length av.cq, .int .u64 (c.cn 0), .int .u64 (c.cn 1), .int .u64 (c.cn 2), .int .u64 (c.cn 3)]) from R3.out)
    clear HPA HPW hca hoa hcw how
    have y4 := R3.out.cell (i := 4) (by decide)
    have f4 := R3.out.frozen 4
    simp only [lrow] at y4
    have z4 := (RTV.out _ BX3.out).cell (i := 4) (by decide)
    simp only [lrow] at z4
    go_upto_region 4 with (fail)
    obtain ⟨V, hV⟩ : ∃ V, w'.setCell ⟨ub, 4, none⟩ (.slice none 0 0) = V := ⟨_, rfl⟩
    have BV := hide (show Bx zb ub W2 V by rw [← hV]; exact BX3.out.set _ _)
    have NA := hide (show Ln V zb c.na c.ac (.slice (some ⟨ga, 0, none⟩) c.na ca2) by rw [← hV]; exact NA.out.set l2 _)
    have NW := hide (show Ln V zb c.nw c.wk (.slice (some ⟨gw, 0, none⟩) c.nw cw2) by rw [← hV]; exact NW.out.set l2 _)
    have RV := hide (show V.rowIs ub 31 14 (lrow [.int .i64 c.ph, .int .i64 c.co, .int .u64 c.ro, .slice (some ⟨ga, 0, none⟩) c.na ca2, .slice none 0 0, .slice (some ⟨gw, 0, none⟩) c.nw cw2, .slice av.oa c.no av.cb, .slice av.fa c.fr.length av.cf, .slice av.ga c.gr.length av.cg, .slice av.qa c.qu.length av.cq, .int .u64 (c.cn 0), .int .u64 (c.cn 1), .int .u64 (c.cn 2), .int .u64 (c.cn 3)]) by rw [← hV]; exact row_set R3.out rfl 4 _)
    have z4 := (RTV.out _ BV.out).cell (i := 4) (by decide)
    simp only [lrow] at z4
    try simp only [hV]
    clear hV R3 BX3 y4 f4 LA LW
    go_wp2_with fail
    clear z4
    go_loopw [22] (fun i wr => ∃ (q : Nat) (ra : Option Addr) (cr : Nat), q ≤ c.nr ∧ i = .int .i64 q ∧ Hid (wr.rowIs ub 31 14 (lrow [.int .i64 c.ph, .int .i64 c.co, .int .u64 c.ro, .slice (some ⟨ga, 0, none⟩) c.na ca2, .slice ra q cr, .slice (some ⟨gw, 0, none⟩) c.nw cw2, .slice av.oa c.no av.cb, .slice av.fa c.fr.length av.cf, .slice av.ga c.gr.length av.cg, .slice av.qa c.qu.length av.cq, .int .u64 (c.cn 0), .int .u64 (c.cn 1), .int .u64 (c.cn 2), .int .u64 (c.cn 3)])) ∧ Hid (∃ rs, wr.ownsRow zb 25 1 (.slice ra q cr) q rs ∧ ∀ j, j < q → ∃ v, rs[j]? = some v ∧ Ln wr zb (c.rn j) (c.rt j) v) ∧ Hid (Ln wr zb c.na c.ac (.slice (some ⟨ga, 0, none⟩) c.na ca2)) ∧ Hid (Ln wr zb c.nw c.wk (.slice (some ⟨gw, 0, none⟩) c.nw cw2)) ∧ Hid (Bx zb ub W2 wr)) (fun i _ => c.nr - (intOf i).toNat)
    case atStart => exact ⟨0, none, 0, Nat.zero_le _, rfl, RV.out, ⟨[], World.ownsRow_nil _ _ _ _, fun j hj => absurd hj (by omega)⟩, NA.out, NW.out, BV.out⟩
    case round =>
      clear RV NA NW BV
      obtain ⟨q, ra, cr, hq, rfl, RVr, ORI, NA, NW, BXr⟩ := hrel
      have szr : zb ≤ wr.heap.size := by have := BXr.out.low.size; rw [ZB.out] at this; exact this
      by_cases hlt : q < c.nr
      · have hqi : (q : Int) < (c.nr : Int) := by omega
        obtain ⟨rs, hor, hoi⟩ := ORI.out
        have ORr := hide hor
        have OIr := hide hoi
        clear hor hoi ORI
        obtain ⟨b, off, ai, ci, hra, hbl, hcc, hse⟩ := (SV.out _ BXr.out).rt q hlt
        have hni := (NV.out _ BXr.out).rt q hlt b off ai ci hra hcc
        have HRA := hide hra
        have LR := hide (fun (V : World) (hb : Below wr.heap.size wr V) => lent_ok (cap := ci) (sees_on hse hb) (fun e => ⟨by have h5 := hse; rw [e] at h5; exact sees_nil h5, hni e⟩) (HW.out.rn q hlt))
        clear hse hni
        have hbq := HW.out.nr
        rw [hra]
        clear hra
        go_upto_region 7 with (fail)
        clear hcc
        refine LtH.region2 (ks := [(0, 26), (1, 27), (6, 32)]) (vals := fun iv => match iv with | 0 => .pointer (some ⟨ub, 4, none⟩) | 1 => .slice ra q cr | 6 => .pointer (some ⟨ub, 4, none⟩) | _ => undef) (xs := [28, 29, 30, 31]) (WI := LtC.WI [2, 3, 4, 5, 7] 5 1 (AS wr zb ub 4 25 1 (.slice ra q cr) q rs 28 29 30 31 (fun v => v = .slice ai (c.rn q) ci) (fun w2 v => Ln w2 wr.heap.size (c.rn q) (c.rt q) v))) (by kernel_rfl) ?Bgd ?Bbk rfl ?Bdd ?Bxx ?Blc ?Bst ?Bdo ?Bfi
        case Bgd =>
          intro iq oq ho
          have hiq : iq < 8 := by have := (Array.getElem?_eq_some_iff.1 ho).1; simpa using this
          match iq, hiq with
          | 0, _ | 1, _ | 2, _ | 3, _ | 4, _ | 5, _ | 6, _ | 7, _ => injection ho with ho; subst ho; rfl
        case Bbk =>
          intro iq oq ho
          have hiq : iq < 8 := by have := (Array.getElem?_eq_some_iff.1 ho).1; simpa using this
          match iq, hiq with
          | 0, _ | 1, _ | 2, _ | 3, _ | 4, _ | 5, _ | 6, _ | 7, _ => injection ho with ho; subst ho; simp [Region.binds]
        case Bdd =>
          intro kq hk
          have hk2 : kq < 69 := by
            simp [Lt.D] at hk
            omega
          exact hk2
        case Bxx =>
          intro kq hk
          have hk2 : kq < 69 := by
            simp at hk
            omega
          exact hk2
        case Blc =>
          rintro L s1 s2 w1 hx ⟨⟨n1, h1, h2, h3⟩, h4⟩
          exact ⟨⟨n1, h1, h2, AS.local (hx 28 rfl) (hx 29 rfl) (hx 30 rfl) (hx 31 rfl) h3⟩, h4⟩
        case Bst => exact LtC.WI.start ⟨rfl, rfl, rfl, Nat.le_refl _, fun _ _ => rfl⟩
        case Bdo =>
          intro iq oq ho
          have hiq : iq < 8 := by have := (Array.getElem?_eq_some_iff.1 ho).1; simpa using this
          match iq, hiq with
          | 0, _ => injection ho with ho; subst ho; exact LtC.read rfl rfl rfl (fun L a w' hI hL hq => Lt.ex_field rfl (hI.fix 3 (Lt.notD rfl) rfl) (by simp [go_sem]))
          | 1, _ => injection ho with ho; subst ho; exact LtC.read rfl rfl rfl (fun L a w' hI hL hq => Lt.ex_load rfl (hI.pure 0 _ _ rfl (hq ⟨0, .data⟩ (by simp) rfl)) (by simp [go_sem]) (by obtain ⟨n1, hn1, hA1⟩ := hI.world.early (m := 3) rfl hL; exact (row_on RVr.out (AS.early hn1 hA1)).cell (i := 4) (by decide)))
          | 2, _ => injection ho with ho; subst ho; exact LtC.link (m := 0) (by decide) rfl rfl rfl rfl (fun L _ e => absurd e (by decide)) (fun L hq m1 j1 e1 _ => absurd e1 (by omega)) (fun L a w' Kq hI hq hS hk => Lt.wp_value (Lt.ex_move rfl (hI.fix 5 (Lt.notD rfl) rfl)) (hk _ _ ⟨hS, rfl⟩))
          | 3, _ => injection ho with ho; subst ho; exact LtC.call (m := 1) (args := fun s1 => #[s1 28]) (by decide) rfl rfl rfl rfl (fun L _ e => absurd e (by decide)) (fun L hq m1 j1 e1 hj => by (cases (show m1 = 0 from (by omega))); cases hj; exact hq ⟨2, .data⟩ (by simp) rfl) (fun L a w' hI hq hS => Lt.call1 rfl rfl rfl (by simp [go_sem])) (fun s1 w1 hS => by obtain ⟨hb1, e1⟩ := hS; simp only [e1]; refine (LR.out w1 hb1).mono ?_; rintro e w2 ⟨⟨g, gc, rfl, hgc, HO2⟩, hb2⟩; exact ⟨_, rfl, hb1.trans (hb2.mono hb1.size), g, gc, by simp, hgc, owns_low HO2.out hb1.size⟩)
          | 4, _ => injection ho with ho; subst ho; exact LtC.link (m := 2) (by decide) rfl rfl rfl rfl (fun L _ e => absurd e (by decide)) (fun L hq m1 j1 e1 hj => by (cases (show m1 = 1 from (by omega))); cases hj; exact hq ⟨3, .data⟩ (by simp) rfl) (fun L a w' Kq hI hq hS hk => by obtain ⟨hb1, g, gc, e1, hgc, HO1⟩ := hS; refine Lt.wp_value (ex_bsS rfl e1) (hk _ _ ?_); refine ⟨hb1.alloc hb1.size _, ⟨g, gc, by simpa using e1, hgc, by simpa using HO1.alloc _⟩, w'.heap.size, by simp, ?_⟩; intro j u hj; simp only [show (29 : Nat) = 30 ↔ False by decide, if_false] at hj; rw [show a.eval (.tmp 29) = _ from e1] at hj; exact cell_one_new w' _ _ j u (by simpa [Value.cells] using hj))
          | 5, _ => injection ho with ho; subst ho; exact LtC.link (m := 3) (by decide) rfl rfl rfl rfl (fun L hq e => hq ⟨1, .data⟩ (by simp) rfl) (fun L hq m1 j1 e1 hj => by (cases (show m1 = 2 from (by omega))); cases hj; exact hq ⟨4, .data⟩ (by simp) rfl) (fun L a w' Kq hI hq hS hk => by obtain ⟨hb1, ⟨g, gc, e1, hgc, HO1⟩, g6, e6, hc6⟩ := hS; exact wp_append (.tmp 27) (.tmp 30) 26 rfl zb 25 iS (.slice none 0 0) 1 24 Tryz.underlying26 hiS hzS hsS hyS rfl (by decide) (.slice ra q cr) q rs (hI.pure 1 _ _ rfl (hq ⟨1, .data⟩ (by simp) rfl)) (owns_on ORr.out hb1) ⟨g6, 0, none⟩ 1 1 (a.eval (.tmp 29)).cells.toList e6 (by rw [show a.eval (.tmp 29) = _ from e1]; rfl) (fun j u hj => hc6 j u hj) (by rw [show a.eval (.tmp 29) = _ from e1]; simp [Value.cells, Value.oneCell']) (by unfold maxLen; omega) (by omega) (by have := hb1.size; omega) (fun v2 w2 hown hgr => hk v2 w2 ⟨w', hb1, ⟨g, gc, by simpa using e1, hgc, by simpa using HO1⟩, hgr, by simpa using hown⟩))
          | 6, _ => injection ho with ho; subst ho; exact LtC.read rfl rfl rfl (fun L a w' hI hL hq => Lt.ex_field rfl (hI.fix 3 (Lt.notD rfl) rfl) (by simp [go_sem]))
          | 7, _ => injection ho with ho; subst ho; exact LtC.store (m := 4) (by decide) rfl rfl rfl (fun L _ e => absurd e (by decide)) (fun L hq m1 j1 e1 hj => by (cases (show m1 = 3 from (by omega))); cases hj; exact hq ⟨5, .data⟩ (by simp) rfl) (fun L a w' Kq hI hq hS hk => by obtain ⟨w6, hb6, hB6, hgr, hown⟩ := hS; obtain ⟨ao, cp, e4⟩ := own_slice hown; have R6 := (row_on RVr.out hb6).of_block (hgr.block ub (by have := hb6.size; omega) (fun e => by have := (ORr.out.lt ub e.symm).1; omega)); exact wp_storeS rfl rfl (hI.pure 6 _ _ rfl (hq ⟨6, .data⟩ (by simp) rfl)) e4 (by kernel_rfl) (R6.cell (i := 4) (by decide)) (R6.frozen 4) (hk undef _ ⟨w6, w', hb6, hB6, hgr, hown, by rw [show (fun k => a.eval (.tmp k)) 31 = _ from e4]⟩))
        case Bfi =>
          intro L a' w' hI hall
          have hdone := hI.world.done (fun i hi => hall i (by simp at hi ⊢; omega))
          have BXq := hide (AS.bx l2 szr ORr.out hdone)
          obtain ⟨h4, ⟨w6, hb6, ⟨g, gc, eg, hgc, HOg⟩, hk6⟩, hkr, hrow, hlow⟩ := AS.end l2 szr ORr.out hdone
          have hfr2 := LtH.frame hI [26, 27, 28, 29, 30, 31, 32] rfl rfl (fun x hx => by simp at hx ⊢; omega)
          obtain ⟨t26, e26⟩ : ∃ t, a'.eval (.tmp 26) = t := ⟨_, rfl⟩
          obtain ⟨t27, e27⟩ : ∃ t, a'.eval (.tmp 27) = t := ⟨_, rfl⟩
          obtain ⟨t28, e28⟩ : ∃ t, a'.eval (.tmp 28) = t := ⟨_, rfl⟩
          obtain ⟨t29, e29⟩ : ∃ t, a'.eval (.tmp 29) = t := ⟨_, rfl⟩
          obtain ⟨t30, e30⟩ : ∃ t, a'.eval (.tmp 30) = t := ⟨_, rfl⟩
          obtain ⟨t31, e31⟩ : ∃ t, a'.eval (.tmp 31) = t := ⟨_, rfl⟩
          obtain ⟨t32, e32⟩ : ∃ t, a'.eval (.tmp 32) = t := ⟨_, rfl⟩
          simp only [e29, e31] at h4 eg HOg hrow
          have H4 := hide h4
          have HK6 := hide hk6
          have HKR := hide hkr
          have HRW := hide (hrow _ _ _ RVr.out rfl)
          have HGG := hide HOg
          have EG := hide eg
          obtain ⟨ra2, cr2, e31b⟩ := own_slice h4
          rw [hfr2]
          simp only [LtH.lay, List.foldl, e26, e27, e28, e29, e30, e31, e32]
          have HE31 := hide e31b
          clear hfr2 hI hall e26 e27 e28 e29 e30 e31 e32 h4 hk6 hkr hrow hlow HOg eg hdone e31b
          simp only [Act.put, List.setIfInBounds_toArray, List.set_cons_succ, List.set_cons_zero]
          go_wp2_with fail
          go_roundw
          case rel =>
            refine ⟨q + 1, ra2, cr2, by omega, by go_num, ?_, ⟨rs ++ [t29], ?_, ?_⟩, NA.out.kpS HKR.out, NW.out.kpS HKR.out, BXr.out.trans BXq.out⟩
            · have h5 := HRW.out
              rw [HE31.out] at h5
              exact h5
            · have h5 := H4.out
              rw [HE31.out, EG.out] at h5
              rw [EG.out]
              exact h5
            · intro j hj
              have hrl : rs.length = q := by have := ORr.out.1; omega
              by_cases hjq : j < q
              · obtain ⟨v, h1, h2⟩ := OIr.out j hjq
                exact ⟨v, by rw [List.getElem?_append_left (by omega)]; exact h1, h2.kpS HKR.out⟩
              · have hjq2 : j = q := by omega
                subst hjq2
                refine ⟨t29, by rw [List.getElem?_append_right (by omega), hrl]; simp, ?_⟩
                exact (Ln.low (lo' := zb) ⟨g, gc, EG.out, hgc, HGG.out⟩ szr).kpS HK6.out
          case measure => simp [intOf]; omega
      · obtain rfl : q = c.nr := by omega
        have hqi : ¬ ((c.nr : Nat) : Int) < ((c.nr : Nat) : Int) := by omega
        have y6 := RVr.out.cell (i := 6) (by decide)
        have f6 := RVr.out.frozen 6
        simp only [lrow] at y6
        have z6 := (RTV.out _ BXr.out).cell (i := 6) (by decide)
        simp only [lrow] at z6
        go_upto_region 10 with (fail)
        obtain ⟨X, hX⟩ : ∃ X, wr.setCell ⟨ub, 6, none⟩ (.slice none 0 0) = X := ⟨_, rfl⟩
        have BV := hide (show Bx zb ub W2 X by rw [← hX]; exact BXr.out.set _ _)
        have NA := hide (show Ln X zb c.na c.ac (.slice (some ⟨ga, 0, none⟩) c.na ca2) by rw [← hX]; exact NA.out.set l2 _)
        have NW := hide (show Ln X zb c.nw c.wk (.slice (some ⟨gw, 0, none⟩) c.nw cw2) by rw [← hX]; exact NW.out.set l2 _)
        have OR := hide (show (∃ rs, X.ownsRow zb 25 1 (.slice ra c.nr cr) c.nr rs ∧ ∀ j, j < c.nr → ∃ v, rs[j]? = some v ∧ Ln X zb (c.rn j) (c.rt j) v) by
          obtain ⟨rs, h1, h2⟩ := ORI.out
          rw [← hX]
          exact ⟨rs, owns_set h1 l2 _, fun j hj => by obtain ⟨v, e, hl⟩ := h2 j hj; exact ⟨v, e, hl.set l2 _⟩⟩)
        have RV := hide (show X.rowIs ub 31 14 (lrow [.int .i64 c.ph, .int .i64 c.co, .int .u64 c.ro, .slice (some ⟨ga, 0, none⟩) c.na ca2, .slice ra c.nr cr, .slice (some ⟨gw, 0, none⟩) c.nw cw2, .slice none 0 0, .slice av.fa c.fr.length av.cf, .slice av.ga c.gr.length av.cg, .slice av.qa c.qu.length av.cq, .int .u64 (c.cn 0), .int .u64 (c.cn 1), .int .u64 (c.cn 2), .int .u64 (c.cn 3)]) by rw [← hX]; exact row_set RVr.out rfl 6 _)
        have z6 := (RTV.out _ BV.out).cell (i := 6) (by decide)
        simp only [lrow] at z6
        try simp only [hX]
        clear hX RVr BXr y6 f6 ORI
        go_wp2_with fail
        clear z6
        go_loopw [38] (fun i wr => ∃ (q : Nat) (oa : Option Addr) (cb : Nat), q ≤ c.no ∧ i = .int .i64 q ∧ Hid (wr.rowIs ub 31 14 (lrow [.int .i64 c.ph, .int .i64 c.co, .int .u64 c.ro, .slice (some ⟨ga, 0, none⟩) c.na ca2, .slice ra c.nr cr, .slice (some ⟨gw, 0, none⟩) c.nw cw2, .slice oa q cb, .slice av.fa c.fr.length av.cf, .slice av.ga c.gr.length av.cg, .slice av.qa c.qu.length av.cq, .int .u64 (c.cn 0), .int .u64 (c.cn 1), .int .u64 (c.cn 2), .int .u64 (c.cn 3)])) ∧ Hid (∃ os, wr.ownsRow zb 46 9 (.slice oa q cb) q os ∧ ∀ j, j < q → ∃ v, (∀ p, p < 9 → os[j * 9 + p]? = some ((c.ob j).cell v p)) ∧ Ln wr zb (c.ob j).ns (c.ob j).sl v) ∧ Hid (∃ rs, wr.ownsRow zb 25 1 (.slice ra c.nr cr) c.nr rs ∧ ∀ j, j < c.nr → ∃ v, rs[j]? = some v ∧ Ln wr zb (c.rn j) (c.rt j) v) ∧ Hid (Ln wr zb c.na c.ac (.slice (some ⟨ga, 0, none⟩) c.na ca2)) ∧ Hid (Ln wr zb c.nw c.wk (.slice (some ⟨gw, 0, none⟩) c.nw cw2)) ∧ Hid (Bx zb ub W2 wr)) (fun i _ => c.no - (intOf i).toNat)
        case atStart => exact ⟨0, none, 0, Nat.zero_le _, rfl, RV.out, ⟨[], World.ownsRow_nil _ _ _ _, fun j hj => absurd hj (by omega)⟩, OR.out, NA.out, NW.out, BV.out⟩
        case round =>
          clear RV NA NW BV OR
          obtain ⟨q, oa, cb, hq, rfl, RVr, OBI, ORI, NA, NW, BXr⟩ := hrel
          have szr : zb ≤ wr.heap.size := by have := BXr.out.low.size; rw [ZB.out] at this; exact this
          by_cases hlt : q < c.no
          · have hqi : (q : Int) < (c.no : Int) := by omega
            obtain ⟨os, hor, hoi⟩ := OBI.out
            have ORr := hide hor
            have OIr := hide hoi
            clear hor hoi OBI
            obtain ⟨b, off, ai, ci, hoa, hbl, hcc, hse⟩ := (SV.out _ BXr.out).ob q hlt
            have hni := (NV.out _ BXr.out).ob q hlt b off ai ci hoa (hcc 8 (by decide))
            have hwn := HW.out.ns q hlt
            rcases hob : c.ob q with ⟨us, li, fi, ta, ag, ge, lk, nx, ns, sl⟩
            rw [hob] at hcc hse hwn
            simp only at hse hwn
            obtain ⟨p0, p1, p2, p3, p4, p5, p6, p7, p8⟩ := obs9 hcc
            simp only at p0 p1 p2 p3 p4 p5 p6 p7 p8
            have HOB := hide hob
            have HSE := hide hse
            have HNI := hide hni
            have hbq := HW.out.no
            clear hcc hse hni hob
            rw [hoa]
            go_upto_region 13 with (fail)
            obtain ⟨WX, hWX⟩ : ∃ W, wr.alloc (.cells #[.bool us, .bool li, .bool fi, .bool ta, .int .i64 ag, .int .u64 ge, .int .u64 lk, .int .u64 nx, .slice ai ns ci] 46) = W := ⟨_, rfl⟩
            have RX := hide (show WX.rowIs wr.heap.size 46 9 (lrow [.bool us, .bool li, .bool fi, .bool ta, .int .i64 ag, .int .u64 ge, .int .u64 lk, .int .u64 nx, .slice ai ns ci]) by rw [← hWX]; exact rowL_alloc wr [.bool us, .bool li, .bool fi, .bool ta, .int .i64 ag, .int .u64 ge, .int .u64 lk, .int .u64 nx, .slice ai ns ci] _ rfl)
            have bx : Below wr.heap.size wr WX := by rw [← hWX]; exact (Below.refl _ _).alloc (Nat.le_refl _) _
            have BX := hide bx
            have lx : wr.heap.size < WX.heap.size := RX.out.lt
            have LO := hide (lent_ok (cap := ci) (sees_on HSE.out BX.out) (fun e => ⟨by have h5 := HSE.out; rw [e] at h5; exact sees_nil h5, HNI.out e⟩) hwn)
            try simp only [hWX]
            clear hWX bx p0 p1 p2 p3 p4 p5 p6 p7 p8 hoa
            have u8 := RX.out.cell (i := 8) (by decide)
            simp only [lrow] at u8
            go_upto_region 14 with (go_at_call 13; refine LO.out.mono ?_; rintro e w6 ⟨⟨gs, cs, rfl, hgc, HO2⟩, hb⟩; have HB6 := hide hb; have R6 := hide (row_on RX.out hb); have s6 := hb.size; have u8 := R6.out.cell (i := 8) (by decide); have f8 := R6.out.frozen 8; simp only [lrow] at u8; clear hb)
            obtain ⟨W7, hW7⟩ : ∃ W, w6.setCell ⟨wr.heap.size, 8, none⟩ (.slice (some ⟨gs, 0, none⟩) ns cs) = W := ⟨_, rfl⟩
            have R7 := hide (show W7.rowIs wr.heap.size 46 9 (lrow [.bool us, .bool li, .bool fi, .bool ta, .int .i64 ag, .int .u64 ge, .int .u64 lk, .int .u64 nx, .slice (some ⟨gs, 0, none⟩) ns cs]) by rw [← hW7]; exact row_set R6.out rfl 8 _)
            have B7 := hide (show Below wr.heap.size wr W7 by rw [← hW7]; exact (BX.out.trans (HB6.out.mono (by omega))).setCell (Nat.le_refl _) _)
            have NN := hide (show Ln W7 zb ns sl (.slice (some ⟨gs, 0, none⟩) ns cs) by rw [← hW7]; exact (Ln.set (lo := WX.heap.size) ⟨gs, cs, rfl, hgc, HO2.out⟩ lx _).low (by omega))
            have s7 : w6.heap.size = W7.heap.size := by rw [← hW7]; simp
            try simp only [hW7]
            clear hW7 u8 f8 HO2 R6 LO
            have RU7 := hide (row_on RVr.out B7.out)
            have O7 := hide (owns_on ORr.out B7.out)
            have BX7 := hide (BXr.out.below B7.out (by rw [ZB.out]; exact Nat.le_refl _) (by rw [ZB.out]; omega))
            have l7 : wr.heap.size < W7.heap.size := R7.out.lt
            have lu : ub < W7.heap.size := by omega
            have u0 := R7.out.cell (i := 0) (by decide)
            have u1 := R7.out.cell (i := 1) (by decide)
            have u2 := R7.out.cell (i := 2) (by decide)
            have u3 := R7.out.cell (i := 3) (by decide)
            have u4 := R7.out.cell (i := 4) (by decide)
            have u5 := R7.out.cell (i := 5) (by decide)
            have u6 := R7.out.cell (i := 6) (by decide)
            have u7 := R7.out.cell (i := 7) (by decide)
            have u8 := R7.out.cell (i := 8) (by decide)
            simp only [lrow] at u0 u1 u2 u3 u4 u5 u6 u7 u8
            have y6 := RU7.out.cell (i := 6) (by decide)
            simp only [lrow] at y6
            go_wp2_with (at_builtin; refine wpList_append_opt rfl (.tmp 47) (.tmp 49) 27 rfl zb 46 iO zO 9 64 Tryz.underlying27 hiO hzO hsO hyO hcO (by decide) (.slice oa q cb) q os rfl (O7.out.alloc _) (some ⟨W7.heap.size, 0, none⟩) 1 1 [.bool us, .bool li, .bool fi, .bool ta, .int .i64 ag, .int .u64 ge, .int .u64 lk, .int .u64 nx, .slice (some ⟨gs, 0, none⟩) ns cs] rfl (fun h => by cases h) rfl (fun ad had j u hu => by cases had; exact cells_new W7 _ 46 j u hu) (by simp [Value.oneCell']) (by unfold maxLen; omega) (by omega) (by simp; omega) ?_; intro v8 w8 hown8 hgr8 _; obtain ⟨oa2, cb2, rfl⟩ := own_slice hown8; have O8 := hide hown8; have G8 := hide hgr8; have R8 := hide (((RU7.out.alloc (.cells #[.bool us, .bool li, .bool fi, .bool ta, .int .i64 ag, .int .u64 ge, .int .u64 lk, .int .u64 nx, .slice (some ⟨gs, 0, none⟩) ns cs] 46)).of_block (hgr8.block ub (by simp; omega) (fun e => by have := (O7.out.lt ub e.symm).1; omega)))); have y6 := R8.out.cell (i := 6) (by decide); have f6 := R8.out.frozen 6; simp only [lrow] at y6; clear hown8 hgr8)
            have KP := hide (show ∀ e' size' v' n' xs', ¬ e' = 46 → W7.ownsRow zb e' size' v' n' xs' → (w8.setCell ⟨ub, 6, none⟩ (.slice oa2 (q + 1) cb2)).ownsRow zb e' size' v' n' xs' from fun e' size' v' n' xs' hne h' => owns_set ((h'.alloc (.cells #[.bool us, .bool li, .bool fi, .bool ta, .int .i64 ag, .int .u64 ge, .int .u64 lk, .int .u64 nx, .slice (some ⟨gs, 0, none⟩) ns cs] 46)).kept G8.out (owns_ne (h'.alloc (.cells #[.bool us, .bool li, .bool fi, .bool ta, .int .i64 ag, .int .u64 ge, .int .u64 lk, .int .u64 nx, .slice (some ⟨gs, 0, none⟩) ns cs] 46)) (O7.out.alloc (.cells #[.bool us, .bool li, .bool fi, .bool ta, .int .i64 ag, .int .u64 ge, .int .u64 lk, .int .u64 nx, .slice (some ⟨gs, 0, none⟩) ns cs] 46)) hne)) l2 _)
            have BX9 := hide (show Bx zb ub W2 (w8.setCell ⟨ub, 6, none⟩ (.slice oa2 (q + 1) cb2)) from ((BX7.out.below ((Below.refl _ W7).alloc (Nat.le_refl _) _) (by rw [ZB.out]; exact Nat.le_refl _) (by rw [ZB.out]; omega)).grown (O7.out.alloc _) G8.out (by rw [ZB.out]; exact Nat.le_refl _) l2).set _ _)
            go_roundw
            case rel =>
              refine ⟨q + 1, oa2, cb2, by omega, by go_num, row_set R8.out rfl 6 _, ⟨os ++ [.bool us, .bool li, .bool fi, .bool ta, .int .i64 ag, .int .u64 ge, .int .u64 lk, .int .u64 nx, .slice (some ⟨gs, 0, none⟩) ns cs], owns_set O8.out l2 _, ?_⟩, ?_, (NA.out.on B7.out).kpO KP.out, (NW.out.on B7.out).kpO KP.out, BX9.out⟩
              · intro j hj
                have hrl : os.length = q * 9 := ORr.out.1
                by_cases hjq : j < q
                · obtain ⟨v, h1, h2⟩ := OIr.out j hjq
                  exact ⟨v, fun p hp => by rw [List.getElem?_append_left (by omega)]; exact h1 p hp, (h2.on B7.out).kpO KP.out⟩
                · obtain rfl : j = q := by omega
                  refine ⟨.slice (some ⟨gs, 0, none⟩) ns cs, fun p hp => ?_, ?_⟩
                  · rw [List.getElem?_append_right (by omega), show j * 9 + p - os.length = p by omega, HOB.out]
                    exact Ob.cells_get ⟨us, li, fi, ta, ag, ge, lk, nx, ns, sl⟩ _ hp
                  · rw [HOB.out]
                    exact NN.out.kpO KP.out
              · obtain ⟨rs, h1, h2⟩ := ORI.out
                exact ⟨rs, KP.out _ _ _ _ _ (by decide) (owns_on h1 B7.out), fun j hj => by obtain ⟨v, e, hl⟩ := h2 j hj; exact ⟨v, e, (hl.on B7.out).kpO KP.out⟩⟩
            case measure => simp [intOf]; omega
          · obtain rfl : q = c.no := by omega
            have hqi : ¬ ((c.no : Nat) : Int) < ((c.no : Nat) : Int) := by omega
            have HBX := hide (fun (V : World) (hb : Bx wr.heap.size ub wr V) => (BXr.out.trans (hb.mn szr) : Bx zb ub W2 V))
            have LF := hide (fun (V : World) (hb : Bx wr.heap.size ub wr V) => numbers_ok (cap := av.cf) (SV.out V (HBX.out V hb)).fr (fun e => ⟨by have h5 := (SV.out V (HBX.out V hb)).fr; rw [e] at h5; rw [seesN_nil h5]; rfl, (NV.out V (HBX.out V hb)).fr e⟩) HW.out.fr)
            have LG := hide (fun (V : World) (hb : Bx wr.heap.size ub wr V) => numbers_ok (cap := av.cg) (SV.out V (HBX.out V hb)).gr (fun e => ⟨by have h5 := (SV.out V (HBX.out V hb)).gr; rw [e] at h5; rw [seesN_nil h5]; rfl, (NV.out V (HBX.out V hb)).gr e⟩) HW.out.gr)
            have LQ := hide (fun (V : World) (hb : Bx wr.heap.size ub wr V) => numbers_ok (cap := av.cq) (SV.out V (HBX.out V hb)).qu (fun e => ⟨by have h5 := (SV.out V (HBX.out V hb)).qu; rw [e] at h5; rw [seesN_nil h5]; rfl, (NV.out V (HBX.out V hb)).qu e⟩) HW.out.qu)
            go_upto_region 17 with (fail)
            have lur : ub < wr.heap.size := by omega
            refine LtH.region2 (ks := [(0, 53), (1, 54), (2, 55), (4, 57), (5, 58), (6, 59), (8, 61), (9, 62), (10, 63), (12, 65), (14, 66), (16, 67)]) (vals := fun iv => match iv with | 0 => .func (.func 14) #[] #[] | 1 => .pointer (some ⟨tb, 7, none⟩) | 2 => .slice av.fa c.fr.length av.cf | 4 => .func (.func 14) #[] #[] | 5 => .pointer (some ⟨tb, 8, none⟩) | 6 => .slice av.ga c.gr.length av.cg | 8 => .func (.func 14) #[] #[] | 9 => .pointer (some ⟨tb, 9, none⟩) | 10 => .slice av.qa c.qu.length av.cq | 12 => .pointer (some ⟨ub, 7, none⟩) | 14 => .pointer (some ⟨ub, 8, none⟩) | 16 => .pointer (some ⟨ub, 9, none⟩) | _ => undef) (xs := [56, 60, 64]) (WI := LtC.WI [3, 7, 11, 13, 15, 17] 13 12 (S3 wr wr.heap.size ub [.int .i64 c.ph, .int .i64 c.co, .int .u64 c.ro, .slice (some ⟨ga, 0, none⟩) c.na ca2, .slice ra c.nr cr, .slice (some ⟨gw, 0, none⟩) c.nw cw2, .slice oa c.no cb, .slice av.fa c.fr.length av.cf, .slice av.ga c.gr.length av.cg, .slice av.qa c.qu.length av.cq, .int .u64 (c.cn 0), .int .u64 (c.cn 1), .int .u64 (c.cn 2), .int .u64 (c.cn 3)] (fun w1 v => Li w1 zb c.fr v) (fun w1 v => Li w1 zb c.gr v) (fun w1 v => Li w1 zb c.qu v))) (by kernel_rfl) ?Cgd ?Cbk rfl ?Cdd ?Cxx ?Clc ?Cst ?Cdo ?Cfi
            case Cgd =>
              intro iq oq ho
              have hiq : iq < 18 := by have := (Array.getElem?_eq_some_iff.1 ho).1; simpa using this
              match iq, hiq with
              | 0, _ | 1, _ | 2, _ | 3, _ | 4, _ | 5, _ | 6, _ | 7, _ | 8, _ | 9, _ | 10, _ | 11, _ | 12, _ | 13, _ | 14, _ | 15, _ | 16, _ | 17, _ => injection ho with ho; subst ho; rfl
            case Cbk =>
              intro iq oq ho
              have hiq : iq < 18 := by have := (Array.getElem?_eq_some_iff.1 ho).1; simpa using this
              match iq, hiq with
              | 0, _ | 1, _ | 2, _ | 3, _ | 4, _ | 5, _ | 6, _ | 7, _ | 8, _ | 9, _ | 10, _ | 11, _ | 12, _ | 13, _ | 14, _ | 15, _ | 16, _ | 17, _ => injection ho with ho; subst ho; simp [Region.binds]
            case Cdd =>
              intro kq hk
              have hk2 : kq < 69 := by
                simp [Lt.D] at hk
                omega
              exact hk2
            case Cxx =>
              intro kq hk
              have hk2 : kq < 69 := by
                simp at hk
                omega
              exact hk2
            case Clc =>
              rintro L s1 s2 w1 hx ⟨⟨n1, h1, h2, h3⟩, h4⟩
              exact ⟨⟨n1, h1, h2, S3.local (hx 56 rfl) (hx 60 rfl) (hx 64 rfl) h3⟩, h4⟩
            case Cst => exact LtC.WI.start ⟨(Bx.refl _ _ _).dr, RVr.out⟩
            case Cdo =>
              intro iq oq ho
              have hiq : iq < 18 := by have := (Array.getElem?_eq_some_iff.1 ho).1; simpa using this
              match iq, hiq with
              | 0, _ => injection ho with ho; subst ho; exact LtC.read rfl rfl rfl (fun L a w' hI hL hq => Lt.ex_move rfl (hI.fix 8 (Lt.notD rfl) rfl))
              | 1, _ => injection ho with ho; subst ho; exact LtC.read rfl rfl rfl (fun L a w' hI hL hq => Lt.ex_field rfl (hI.fix 1 (Lt.notD rfl) rfl) (by simp [go_sem]))
              | 2, _ => injection ho with ho; subst ho; exact LtC.read rfl rfl rfl (fun L a w' hI hL hq => Lt.ex_load rfl (hI.pure 1 _ _ rfl (hq ⟨1, .data⟩ (by simp) rfl)) (by simp [go_sem]) (by obtain ⟨n1, hn1⟩ := hI.world.any; exact (RTV.out _ (HBX.out _ (S3.bx hn1))).cell (i := 7) (by decide)))
              | 3, _ => injection ho with ho; subst ho; exact LtC.call (m := 0) (args := fun _ => #[.slice av.fa c.fr.length av.cf]) (by decide) rfl rfl rfl rfl (fun L _ e => absurd e (by decide)) (fun L hq m1 j1 e1 _ => absurd e1 (by omega)) (fun L a w' hI hq hS => callv1 rfl (hI.pure 0 _ _ rfl (hq ⟨0, .data⟩ (by simp) rfl)) (hI.pure 2 _ _ rfl (hq ⟨2, .data⟩ (by simp) rfl)) (by simp [go_sem])) (fun s1 w1 hS => by obtain ⟨hbx, hrw⟩ := hS; refine (LF.out w1 hbx).mono ?_; rintro e w2 ⟨⟨g, gc, rfl, hgc, HO2⟩, hb2⟩; have hsz : zb ≤ w1.heap.size := (by have := hbx.low.size; omega); exact ⟨_, rfl, hbx.below hb2 (Nat.le_refl _) (by omega), row_on hrw hb2, g, gc, by simp, hgc, owns_low HO2.out hsz⟩)
              | 4, _ => injection ho with ho; subst ho; exact LtC.read rfl rfl rfl (fun L a w' hI hL hq => Lt.ex_move rfl (hI.fix 8 (Lt.notD rfl) rfl))
              | 5, _ => injection ho with ho; subst ho; exact LtC.read rfl rfl rfl (fun L a w' hI hL hq => Lt.ex_field rfl (hI.fix 1 (Lt.notD rfl) rfl) (by simp [go_sem]))
              | 6, _ => injection ho with ho; subst ho; exact LtC.read rfl rfl rfl (fun L a w' hI hL hq => Lt.ex_load rfl (hI.pure 5 _ _ rfl (hq ⟨5, .data⟩ (by simp) rfl)) (by simp [go_sem]) (by obtain ⟨n1, hn1⟩ := hI.world.any; exact (RTV.out _ (HBX.out _ (S3.bx hn1))).cell (i := 8) (by decide)))
              | 7, _ => injection ho with ho; subst ho; exact LtC.call (m := 1) (args := fun _ => #[.slice av.ga c.gr.length av.cg]) (by decide) rfl rfl rfl rfl (fun L _ e => absurd e (by decide)) (fun L hq m1 j1 e1 hj => by (cases (show m1 = 0 from (by omega))); cases hj; exact hq ⟨3, .chain⟩ (by simp) rfl) (fun L a w' hI hq hS => callv1 rfl (hI.pure 4 _ _ rfl (hq ⟨4, .data⟩ (by simp) rfl)) (hI.pure 6 _ _ rfl (hq ⟨6, .data⟩ (by simp) rfl)) (by simp [go_sem])) (fun s1 w1 hS => by obtain ⟨hbx, hrw, hp0⟩ := hS; refine (LG.out w1 hbx).mono ?_; rintro e w2 ⟨⟨g, gc, rfl, hgc, HO2⟩, hb2⟩; have hsz : zb ≤ w1.heap.size := (by have := hbx.low.size; omega); exact ⟨_, rfl, hbx.below hb2 (Nat.le_refl _) (by omega), row_on hrw hb2, by simpa using hp0.on hb2, g, gc, by simp, hgc, owns_low HO2.out hsz⟩)
              | 8, _ => injection ho with ho; subst ho; exact LtC.read rfl rfl rfl (fun L a w' hI hL hq => Lt.ex_move rfl (hI.fix 8 (Lt.notD rfl) rfl))
              | 9, _ => injection ho with ho; subst ho; exact LtC.read rfl rfl rfl (fun L a w' hI hL hq => Lt.ex_field rfl (hI.fix 1 (Lt.notD rfl) rfl) (by simp [go_sem]))
              | 10, _ => injection ho with ho; subst ho; exact LtC.read rfl rfl rfl (fun L a w' hI hL hq => Lt.ex_load rfl (hI.pure 9 _ _ rfl (hq ⟨9, .data⟩ (by simp) rfl)) (by simp [go_sem]) (by obtain ⟨n1, hn1⟩ := hI.world.any; exact (RTV.out _ (HBX.out _ (S3.bx hn1))).cell (i := 9) (by decide)))
              | 11, _ => injection ho with ho; subst ho; exact LtC.call (m := 2) (args := fun _ => #[.slice av.qa c.qu.length av.cq]) (by decide) rfl rfl rfl rfl (fun L _ e => absurd e (by decide)) (fun L hq m1 j1 e1 hj => by (cases (show m1 = 1 from (by omega))); cases hj; exact hq ⟨7, .chain⟩ (by simp) rfl) (fun L a w' hI hq hS => callv1 rfl (hI.pure 8 _ _ rfl (hq ⟨8, .data⟩ (by simp) rfl)) (hI.pure 10 _ _ rfl (hq ⟨10, .data⟩ (by simp) rfl)) (by simp [go_sem])) (fun s1 w1 hS => by obtain ⟨hbx, hrw, hp0, hp1⟩ := hS; refine (LQ.out w1 hbx).mono ?_; rintro e w2 ⟨⟨g, gc, rfl, hgc, HO2⟩, hb2⟩; have hsz : zb ≤ w1.heap.size := (by have := hbx.low.size; omega); exact ⟨_, rfl, hbx.below hb2 (Nat.le_refl _) (by omega), row_on hrw hb2, by simpa using hp0.on hb2, by simpa using hp1.on hb2, g, gc, by simp, hgc, owns_low HO2.out hsz⟩)
              | 12, _ => injection ho with ho; subst ho; exact LtC.read rfl rfl rfl (fun L a w' hI hL hq => Lt.ex_field rfl (hI.fix 3 (Lt.notD rfl) rfl) (by simp [go_sem]))
              | 13, _ => injection ho with ho; subst ho; exact LtC.store (m := 3) (by decide) rfl rfl rfl (fun L hq e => hq ⟨12, .data⟩ (by simp) rfl) (fun L hq m1 j1 e1 hj => by (cases (show m1 = 2 from (by omega))); cases hj; exact hq ⟨11, .chain⟩ (by simp) rfl) (fun L a w' Kq hI hq hS hk => by obtain ⟨hbx, hrw, hp0, hp1, hp2⟩ := hS; obtain ⟨g, gc, e4, -⟩ := id hp0; exact wp_storeS rfl rfl (hI.pure 12 _ _ rfl (hq ⟨12, .data⟩ (by simp) rfl)) e4 (by kernel_rfl) (hrw.cell (i := 7) (by decide)) (hrw.frozen 7) (hk undef _ ⟨hbx.set _ _, by have e5 : a.eval (.tmp 56) = _ := e4; simp only [e5]; exact row_set hrw rfl 7 _, hp0.set l2 _, hp1.set l2 _, hp2.set l2 _⟩))
              | 14, _ => injection ho with ho; subst ho; exact LtC.read rfl rfl rfl (fun L a w' hI hL hq => Lt.ex_field rfl (hI.fix 3 (Lt.notD rfl) rfl) (by simp [go_sem]))
              | 15, _ => injection ho with ho; subst ho; exact LtC.store (m := 4) (by decide) rfl rfl rfl (fun L _ e => absurd e (by decide)) (fun L hq m1 j1 e1 hj => by (cases (show m1 = 3 from (by omega))); cases hj; exact hq ⟨13, .chain⟩ (by simp) rfl) (fun L a w' Kq hI hq hS hk => by obtain ⟨hbx, hrw, hp0, hp1, hp2⟩ := hS; obtain ⟨g, gc, e4, -⟩ := id hp1; exact wp_storeS rfl rfl (hI.pure 14 _ _ rfl (hq ⟨14, .data⟩ (by simp) rfl)) e4 (by kernel_rfl) (hrw.cell (i := 8) (by decide)) (hrw.frozen 8) (hk undef _ ⟨hbx.set _ _, by have e5 : a.eval (.tmp 60) = _ := e4; simp only [e5]; exact row_set hrw rfl 8 _, hp0.set l2 _, hp1.set l2 _, hp2.set l2 _⟩))
              | 16, _ => injection ho with ho; subst ho; exact LtC.read rfl rfl rfl (fun L a w' hI hL hq => Lt.ex_field rfl (hI.fix 3 (Lt.notD rfl) rfl) (by simp [go_sem]))
              | 17, _ => injection ho with ho; subst ho; exact LtC.store (m := 5) (by decide) rfl rfl rfl (fun L _ e => absurd e (by decide)) (fun L hq m1 j1 e1 hj => by (cases (show m1 = 4 from (by omega))); cases hj; exact hq ⟨15, .chain⟩ (by simp) rfl) (fun L a w' Kq hI hq hS hk => by obtain ⟨hbx, hrw, hp0, hp1, hp2⟩ := hS; obtain ⟨g, gc, e4, -⟩ := id hp2; exact wp_storeS rfl rfl (hI.pure 16 _ _ rfl (hq ⟨16, .data⟩ (by simp) rfl)) e4 (by kernel_rfl) (hrw.cell (i := 9) (by decide)) (hrw.frozen 9) (hk undef _ ⟨hbx.set _ _, by have e5 : a.eval (.tmp 64) = _ := e4; simp only [e5]; exact row_set hrw rfl 9 _, hp0.set l2 _, hp1.set l2 _, hp2.set l2 _⟩))
            case Cfi =>
              intro L a' w' hI hall
              have hdone := hI.world.done (fun i hi => hall i (by simp at hi ⊢; omega))
              have hfr2 := LtH.frame hI [53, 54, 55, 56, 57, 58, 59, 60, 61, 62, 63, 64, 65, 66, 67] rfl rfl (fun x hx => by simp at hx ⊢; omega)
              obtain ⟨t53, e53⟩ : ∃ t, a'.eval (.tmp 53) = t := ⟨_, rfl⟩
              obtain ⟨t54, e54⟩ : ∃ t, a'.eval (.tmp 54) = t := ⟨_, rfl⟩
              obtain ⟨t55, e55⟩ : ∃ t, a'.eval (.tmp 55) = t := ⟨_, rfl⟩
              obtain ⟨t56, e56⟩ : ∃ t, a'.eval (.tmp 56) = t := ⟨_, rfl⟩
              obtain ⟨t57, e57⟩ : ∃ t, a'.eval (.tmp 57) = t := ⟨_, rfl⟩
              obtain ⟨t58, e58⟩ : ∃ t, a'.eval (.tmp 58) = t := ⟨_, rfl⟩
              obtain ⟨t59, e59⟩ : ∃ t, a'.eval (.tmp 59) = t := ⟨_, rfl⟩
              obtain ⟨t60, e60⟩ : ∃ t, a'.eval (.tmp 60) = t := ⟨_, rfl⟩
              obtain ⟨t61, e61⟩ : ∃ t, a'.eval (.tmp 61) = t := ⟨_, rfl⟩
              obtain ⟨t62, e62⟩ : ∃ t, a'.eval (.tmp 62) = t := ⟨_, rfl⟩
              obtain ⟨t63, e63⟩ : ∃ t, a'.eval (.tmp 63) = t := ⟨_, rfl⟩
              obtain ⟨t64, e64⟩ : ∃ t, a'.eval (.tmp 64) = t := ⟨_, rfl⟩
              obtain ⟨t65, e65⟩ : ∃ t, a'.eval (.tmp 65) = t := ⟨_, rfl⟩
              obtain ⟨t66, e66⟩ : ∃ t, a'.eval (.tmp 66) = t := ⟨_, rfl⟩
              obtain ⟨t67, e67⟩ : ∃ t, a'.eval (.tmp 67) = t := ⟨_, rfl⟩
              obtain ⟨hbx, hrw, hp0, hp1, hp2⟩ := hdone
              simp only [e56, e60, e64] at hrw hp0 hp1 hp2
              rw [hfr2]
              simp only [LtH.lay, List.foldl, e53, e54, e55, e56, e57, e58, e59, e60, e61, e62, e63, e64, e65, e66, e67]
              have BX18 := hide hbx
              have LIF := hide hp0
              have LIG := hide hp1
              have LIQ := hide hp2
              have R18 := hide hrw
              clear hfr2 hI hall e53 e54 e55 e56 e57 e58 e59 e60 e61 e62 e63 e64 e65 e66 e67 hbx hrw hp0 hp1 hp2
              simp only [Act.put, List.setIfInBounds_toArray, List.set_cons_succ, List.set_cons_zero]
              obtain ⟨gf, cf2, rfl, hf1, hf2⟩ := LIF.out
              obtain ⟨gg, cg2, rfl, hg1, hg2⟩ := LIG.out
              obtain ⟨gq, cq2, rfl, hq1, hq2⟩ := LIQ.out
              have R18 := hide (show w'.rowIs ub 31 14 (lrow [.int .i64 c.ph, .int .i64 c.co, .int .u64 c.ro, .slice (some ⟨ga, 0, none⟩) c.na ca2, .slice ra c.nr cr, .slice (some ⟨gw, 0, none⟩) c.nw cw2, .slice oa c.no cb, .slice (some ⟨gf, 0, none⟩) c.fr.length cf2, .slice (some ⟨gg, 0, none⟩) c.gr.length cg2, .slice (some ⟨gq, 0, none⟩) c.qu.length cq2, .int .u64 (c.cn 0), .int .u64 (c.cn 1), .int .u64 (c.cn 2), .int .u64 (c.cn 3)]) from R18.out)
              have MKK := hide (show Mk w' zb c ⟨some ⟨ga, 0, none⟩, ca2, ra, cr, some ⟨gw, 0, none⟩, cw2, oa, cb, some ⟨gf, 0, none⟩, cf2, some ⟨gg, 0, none⟩, cg2, some ⟨gq, 0, none⟩, cq2⟩ from by
                have ow : ∀ {e size v n xs}, wr.ownsRow zb e size v n xs → w'.ownsRow zb e size v n xs := fun h => owns_keep h (fun b h1 h2 => BX18.out.blk b h1 (by omega))
                have ln : ∀ {n f v}, Ln wr zb n f v → Ln w' zb n f v := fun h => by obtain ⟨g, cp, e, hc, ho⟩ := h; exact ⟨g, cp, e, hc, ow ho⟩
                obtain ⟨rs, h1, h2⟩ := ORI.out
                obtain ⟨os, h3, h4⟩ := OBI.out
                exact ⟨ln NA.out, ⟨rs, ow h1, fun j hj => by obtain ⟨v, e, hl⟩ := h2 j hj; exact ⟨v, e, ln hl⟩⟩, ln NW.out, ⟨os, ow h3, fun j hj => by obtain ⟨v, e, hl⟩ := h4 j hj; exact ⟨v, e, ln hl⟩⟩, ⟨gf, cf2, rfl, hf1, hf2⟩, ⟨gg, cg2, rfl, hg1, hg2⟩, ⟨gq, cq2, rfl, hq1, hq2⟩⟩)
              have BXE := hide (HBX.out _ BX18.out)
              have RRE := hide (BXE.out.row RR.out (by omega) (by omega))
              clear LIF LIG LIQ hf1 hf2 hg1 hg2 hq1 hq2 BX18 OBI ORI NA NW LF LG LQ RVr BXr HBX
              have u0 := R18.out.cell (i := 0) (by decide)
              have u1 := R18.out.cell (i := 1) (by decide)
              have u2 := R18.out.cell (i := 2) (by decide)
              have u3 := R18.out.cell (i := 3) (by decide)
              have u4 := R18.out.cell (i := 4) (by decide)
              have u5 := R18.out.cell (i := 5) (by decide)
              have u6 := R18.out.cell (i := 6) (by decide)
              have u7 := R18.out.cell (i := 7) (by decide)
              have u8 := R18.out.cell (i := 8) (by decide)
              have u9 := R18.out.cell (i := 9) (by decide)
              have u10 := R18.out.cell (i := 10) (by decide)
              have u11 := R18.out.cell (i := 11) (by decide)
              have u12 := R18.out.cell (i := 12) (by decide)
              have u13 := R18.out.cell (i := 13) (by decide)
              simp only [lrow] at u0 u1 u2 u3 u4 u5 u6 u7 u8 u9 u10 u11 u12 u13
              have v0 := RRE.out.cell (i := 0) (by decide)
              have v1 := RRE.out.cell (i := 1) (by decide)
              have v2 := RRE.out.cell (i := 2) (by decide)
              have v3 := RRE.out.cell (i := 3) (by decide)
              have v4 := RRE.out.cell (i := 4) (by decide)
              have v5 := RRE.out.cell (i := 5) (by decide)
              have v6 := RRE.out.cell (i := 6) (by decide)
              have v7 := RRE.out.cell (i := 7) (by decide)
              have v8 := RRE.out.cell (i := 8) (by decide)
              have v9 := RRE.out.cell (i := 9) (by decide)
              have v10 := RRE.out.cell (i := 10) (by decide)
              have v11 := RRE.out.cell (i := 11) (by decide)
              have v12 := RRE.out.cell (i := 12) (by decide)
              have v13 := RRE.out.cell (i := 13) (by decide)
              simp only [lrow] at v0 v1 v2 v3 v4 v5 v6 v7 v8 v9 v10 v11 v12 v13
              have g0 := RRE.out.frozen 0
              have g1 := RRE.out.frozen 1
              have g2 := RRE.out.frozen 2
              have g3 := RRE.out.frozen 3
              have g4 := RRE.out.frozen 4
              have g5 := RRE.out.frozen 5
              have g6 := RRE.out.frozen 6
              have g7 := RRE.out.frozen 7
              have g8 := RRE.out.frozen 8
              have g9 := RRE.out.frozen 9
              have g10 := RRE.out.frozen 10
              have g11 := RRE.out.frozen 11
              have g12 := RRE.out.frozen 12
              have g13 := RRE.out.frozen 13
              go_wp2_with fail
              have ST := sets14 (n := w.heap.size) RRE.out rfl (HB2.out.trans (BXE.out.low.mono (by rw [TB.out]; omega))) (by rw [TB.out]; omega) (.int .i64 c.ph) (.int .i64 c.co) (.int .u64 c.ro) (.slice (some ⟨ga, 0, none⟩) c.na ca2) (.slice ra c.nr cr) (.slice (some ⟨gw, 0, none⟩) c.nw cw2) (.slice oa c.no cb) (.slice (some ⟨gf, 0, none⟩) c.fr.length cf2) (.slice (some ⟨gg, 0, none⟩) c.gr.length cg2) (.slice (some ⟨gq, 0, none⟩) c.qu.length cq2) (.int .u64 (c.cn 0)) (.int .u64 (c.cn 1)) (.int .u64 (c.cn 2)) (.int .u64 (c.cn 3))
              obtain ⟨dV, hd1, hd2⟩ := Lt.isRow_of (ty := 31) (by kernel_rfl)
              exact bodyPost_ret (res_c (by rfl) (by rfl) (run_loadVar_mid _ _ 0 _ _ dV (rngL ST.1 rfl) hd1 hd2 (by kernel_rfl))) rfl ⟨⟨⟨some ⟨ga, 0, none⟩, ca2, ra, cr, some ⟨gw, 0, none⟩, cw2, oa, cb, some ⟨gf, 0, none⟩, cf2, some ⟨gg, 0, none⟩, cg2, some ⟨gq, 0, none⟩, cq2⟩, rfl, hide ((MKK.out.keep (fun b _ h2 => ST.2.2 b (by omega))).low (by have := HB2.out.size; rw [ZB.out] at this; exact this))⟩, ST.2.1⟩
end Vw
end Go.Proofs.YtecjegjnnahddaaGreat
