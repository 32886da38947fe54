/-
  Lemmas: VwRw.
-/
import Derived.Test.YtecjegjnnahddaaGreatTp20
import Derived.Test.YtecjegjnnahddaaGreatTp23
/-
  View: the document's Look of a right memory
-/
namespace Go.Proofs.YtecjegjnnahddaaGreat
open Go.RowKit
set_option linter.unusedVariables false
set_option linter.unusedSimpArgs false
set_option linter.unnecessarySimpa false
set_option maxRecDepth 20000
namespace Vw
open Shape

/-- The blocks below n stand, but block vb. -/
structure Bx (n vb : Nat) (w w' : World) : Prop where
  low : Below vb w w'
  blk : ∀ k, k < n → ¬ k = vb → w'.heap[k]? = w.heap[k]?
theorem Bx.refl (n vb : Nat) (w : World) : Bx n vb w w := ⟨Below.refl _ _, fun _ _ _ => rfl⟩
theorem Bx.below {n vb : Nat} {w w1 w2 : World} (h : Bx n vb w w1) (hb : Below w1.heap.size w1 w2) (hn : n ≤ w.heap.size) (hv : vb ≤ w.heap.size) : Bx n vb w w2 := by
  have hs := h.low.size
  exact ⟨h.low.trans (hb.mono (by omega)), fun k h1 h2 => (hb.block k (by omega)).trans (h.blk k h1 h2)⟩
theorem Bx.set {n vb : Nat} {w w1 : World} (h : Bx n vb w w1) (i : Nat) (v : Value) : Bx n vb w (w1.setCell ⟨vb, i, none⟩ v) :=
  ⟨h.low.setCell (Nat.le_refl _) _, fun k h1 h2 => (Below.heap_setCell _ _ _ _ h2).trans (h.blk k h1 h2)⟩
theorem Bx.grown {n vb : Nat} {w w1 w2 : World} {e : TypeId} {size : Nat} {v : Value} {q : Nat} {xs : List Value} (h : Bx n vb w w1) (HO : w1.ownsRow n e size v q xs) (G : w1.grownBy w2 v.ownBlock) (hn : n ≤ w.heap.size) (hv : vb < n) : Bx n vb w w2 := by
  have hs := h.low.size
  exact ⟨below_grown h.low (owns_low HO (Nat.le_of_lt hv)) G (by omega), fun k h1 h2 => (G.block k (by omega) (fun e => by have := (HO.lt k e.symm).1; omega)).trans (h.blk k h1 h2)⟩
theorem Owns.bx {vb lo : Nat} {w w' : World} {c : Cv} {a : Av} (h : Owns w lo c a) (hb : Bx w.heap.size vb w w') (hv : vb < lo) : Owns w' lo c a := h.keep (fun b h1 h2 => hb.blk b h1 (by omega))
theorem Bx.row {n vb g : Nat} {w w' : World} {t : TypeId} {m : Nat} {F : Nat → Value} (hb : Bx n vb w w') (hr : w.rowIs g t m F) (hg : g < n) (hne : ¬ g = vb) : w'.rowIs g t m F := hr.of_block (hb.blk g hg hne)
theorem AS.bx {wr : World} {bb vb fld : Nat} {e : TypeId} {size : Nat} {rv : Value} {q : Nat} {rs : List Value} {x1 x2 x3 x4 : Nat} {A : Value → Prop} {Bp : World → Value → Prop} {s : Nat → Value} {w : World} (hv : vb < bb) (hb : bb ≤ wr.heap.size) (HO : wr.ownsRow bb e size rv q rs) (h : AS wr bb vb fld e size rv q rs x1 x2 x3 x4 A Bp 5 s w) : Bx bb vb wr w := by
  refine ⟨AS.low hv hb HO h, fun k hk hne => ?_⟩
  obtain ⟨w6, w7, h1, h2, h3, h4, rfl⟩ := h
  have hs := h1.size
  exact (Below.heap_setCell _ _ _ _ hne).trans ((h3.block k (by omega) (fun e => by have := (HO.lt k e.symm).1; omega)).trans (h1.block k (by omega)))
theorem Bx.trans {n vb : Nat} {w w1 w2 : World} (h : Bx n vb w w1) (h' : Bx n vb w1 w2) : Bx n vb w w2 := ⟨h.low.trans h'.low, fun k h1 h2 => (h'.blk k h1 h2).trans (h.blk k h1 h2)⟩

/-- A view under way. -/
def pc (x : Sh) (f : Nat → Int) (na nr nw no : Nat) (fr gr qu : List Int) (cq : Nat) : Cv := ⟨f 0 % 8, f 0 / 8 % 2, f 0 / 256, na, fun i => f (8 + i), nr, fun _ => x.r, fun j q => f (bR x + j * x.r + q), nw, fun b => f (bK x + b), no, obAt x f, fr, gr, qu, fun i => if i < cq then f (4 + i) else 0⟩
def vcs (c : Cv) (a : Av) : List Value := [.int .i64 c.ph, .int .i64 c.co, .int .u64 c.ro, .slice a.aa c.na a.ca, .slice a.ra c.nr a.cr, .slice a.wa c.nw a.cw, .slice a.oa c.no a.cb, .slice a.fa c.fr.length a.cf, .slice a.ga c.gr.length a.cg, .slice a.qa c.qu.length a.cq, .int .u64 (c.cn 0), .int .u64 (c.cn 1), .int .u64 (c.cn 2), .int .u64 (c.cn 3)]
theorem owns_pc0 (w : World) (lo : Nat) (x : Sh) (f : Nat → Int) : Owns w lo (pc x f 0 0 0 0 [] [] [] 0) av0 := ⟨World.ownsRow_nil _ _ _ _, ⟨[], World.ownsRow_nil _ _ _ _, fun j hj => absurd hj (by simp [pc])⟩, World.ownsRow_nil _ _ _ _, ⟨[], World.ownsRow_nil _ _ _ _, fun j hj => absurd hj (by simp [pc])⟩, World.ownsRow_nil _ _ _ _, World.ownsRow_nil _ _ _ _, World.ownsRow_nil _ _ _ _⟩
theorem wcs_more (n : Nat) (f : Nat → Int) : wcs n f ++ [.int .u64 (f n)] = wcs (n + 1) f := by simp [wcs, List.range_succ]
theorem ex_bsW {ev : Operand → Value} {o : Oper} {w : World} {x : Operand} {y : Int} (ho : o.op = .buildSlice 25 1 #[(0, x)]) (hx : ev x = .int .u64 y) : (execOp ev o).run Tryz.prog w = .ok (.value (.slice (some ⟨w.heap.size, 0, none⟩) 1 1)) (w.alloc (.cells #[.int .u64 y] 24)) := by
  simp [execOp, ho, hx, go_sem]
theorem ex_sliceW {ev : Operand → Value} {o : Oper} {w : World} {x y z : Operand} {b off n cap : Nat} {l u : Int} {v : Value} (ho : o.op = .slice 25 x (some y) (some z) none) (hx : ev x = .slice (some ⟨b, off, none⟩) n cap) (hy : ev y = .int .i64 l) (hz : ev z = .int .i64 u) (hv : ∀ w, (Instr.slice 25 (.slice (some ⟨b, off, none⟩) n cap) (some (.int .i64 l)) (some (.int .i64 u)) none).run Tryz.prog w = .ok v w) : (execOp ev o).run Tryz.prog w = .ok (.value v) w := by
  simp [execOp, ho, hx, hy, hz, hv, go_sem]

set_option maxHeartbeats 16000000 in
theorem rlook_ok {o s h r k b off z cap B : Nat} {s5 : Int} {f : Nat → Int} (H : (⟨o, s, h, r, k⟩ : Sh).Ok) (hz : size ⟨o, s, h, r, k⟩ = z) (hcc : z ≤ cap) (w : World) (hS : Sees w B (some ⟨b, off, none⟩) z f) (hB : B ≤ w.heap.size) (hf : ∀ i, i < z → 0 ≤ f i ∧ f i < 18446744073709551616) : Calls Tryz.prog 19 #[.agg #[.int .i64 (o : Int), .int .i64 (s : Int), .int .i64 (h : Int), .int .i64 (r : Int), .int .i64 (k : Int), .int .i64 s5], .slice (some ⟨b, off, none⟩) z cap] w fun e w' => (∃ a, e = .returned (.tuple #[vl (cv ⟨o, s, h, r, k⟩ f) a, .int .i64 0]) ∧ Hid (Owns w' w.heap.size (cv ⟨o, s, h, r, k⟩ f) a)) ∧ Below w.heap.size w w' := by
  have CH := hide (fun w1 => rcheck_ok (s5 := s5) (r5 H) w1)
  have SZ := hide (fun w1 => rsize_ok (s5 := s5) H w1)
  rw [hz] at SZ
  have hzk : z ≤ 600 := by rw [← hz]; exact (sizes H).2.2.2.2
  have HS := hide (fun (w' : World) (hb : Below w.heap.size w w') (i : Nat) (hi : i < z) => show w'.cell? ⟨b, off + i, none⟩ = some (.int .u64 (f i)) by
    obtain ⟨b1, o1, e1, hl, hc⟩ := hS i hi
    cases e1
    exact (hb.cell (p := ⟨b, off + i, none⟩) (by show b < w.heap.size; omega)).trans hc)
  have HSS := hide hS
  have HF := hide hf
  have LO := hide (lay_out ⟨o, s, h, r, k⟩)
  have z8 : 8 ≤ z := by rw [← hz]; have := LO.out; (try simp only at this ⊢); omega
  have f0 := hf 0 (by omega)
  have PA := hide (fun w1 => parts_ref (f 0) f0.1 f0.2 w1)
  simp only [numB] at PA
  have hbl : b < w.heap.size := by obtain ⟨b1, o1, e1, hl, hc⟩ := hS 0 (by omega); cases e1; omega
  have i0 : (0 : Int) < (z : Int) := by omega
  obtain ⟨W0, hW0, B0, K⟩ := box w (o : Int) (s : Int) (h : Int) (r : Int) (k : Int) s5
  obtain ⟨W1, hW1⟩ : ∃ W1, W0.alloc (.cells #[.int .i64 0, .int .i64 0, .int .u64 0, .slice none 0 0, .slice none 0 0, .slice none 0 0, .slice none 0 0, .slice none 0 0, .slice none 0 0, .slice none 0 0, .int .u64 0, .int .u64 0, .int .u64 0, .int .u64 0] 31) = W1 := ⟨_, rfl⟩
  have B1 : Below W0.heap.size W0 W1 := by rw [← hW1]; exact (Below.refl _ W0).alloc (Nat.le_refl _) _
  have HB1 := hide B1
  have HR1 := hide (show W1.rowIs W0.heap.size 31 14 (lrow [.int .i64 0, .int .i64 0, .int .u64 0, .slice none 0 0, .slice none 0 0, .slice none 0 0, .slice none 0 0, .slice none 0 0, .slice none 0 0, .slice none 0 0, .int .u64 0, .int .u64 0, .int .u64 0, .int .u64 0]) by rw [← hW1]; exact rowL_alloc W0 [.int .i64 0, .int .i64 0, .int .u64 0, .slice none 0 0, .slice none 0 0, .slice none 0 0, .slice none 0 0, .slice none 0 0, .slice none 0 0, .slice none 0 0, .int .u64 0, .int .u64 0, .int .u64 0, .int .u64 0] _ rfl)
  obtain ⟨-, l0, x0, x1, x2, x3, x4, x5⟩ := K.out W1 B1
  have l1 : W0.heap.size < W1.heap.size := HR1.out.lt
  have HB := hide B0
  have l2 : w.heap.size < W0.heap.size := (K.out W0 (Below.refl _ _)).2.1
  clear B0 B1 hS hf
  go_enter Tryz.func19, Tryz.ntmps19
  go_upto_region 7 with (first | (go_at_call 15; refine (CH.out _).mono ?_; rintro e W2 ⟨rfl, hb3⟩; have HB2 := hide hb3; obtain ⟨-, m0, y0, y1, y2, y3, y4, y5⟩ := K.out W2 (HB1.out.trans (hb3.mono HB1.out.size)); clear hb3) | (go_at_call 33; refine (SZ.out _).mono ?_; rintro e W3 ⟨rfl, hb3⟩; have HB3 := hide (HB2.out.trans (hb3.mono HB2.out.size)); clear hb3))
  obtain ⟨V0, hV0⟩ : ∃ V, W3.alloc (.cells #[.int .i64 0, .int .i64 0, .int .u64 0, .slice none 0 0, .slice none 0 0, .slice none 0 0, .slice none 0 0, .slice none 0 0, .slice none 0 0, .slice none 0 0, .int .u64 0, .int .u64 0, .int .u64 0, .int .u64 0] 31) = V := ⟨_, rfl⟩
  have HBV := hide (show Below W0.heap.size W0 V0 by rw [← hV0]; exact (HB1.out.trans (HB3.out.mono HB1.out.size)).alloc (by have := HB1.out.size; have := HB3.out.size; omega) _)
  obtain ⟨vb, hvb⟩ : ∃ vb, W3.heap.size = vb := ⟨_, rfl⟩
  have HRA := hide (show V0.rowIs W0.heap.size 31 14 (lrow [.int .i64 0, .int .i64 0, .int .u64 0, .slice none 0 0, .slice none 0 0, .slice none 0 0, .slice none 0 0, .slice none 0 0, .slice none 0 0, .slice none 0 0, .int .u64 0, .int .u64 0, .int .u64 0, .int .u64 0]) by rw [← hV0]; exact (row_on HR1.out HB3.out).alloc _)
  have HRV := hide (show V0.rowIs vb 31 14 (lrow [.int .i64 0, .int .i64 0, .int .u64 0, .slice none 0 0, .slice none 0 0, .slice none 0 0, .slice none 0 0, .slice none 0 0, .slice none 0 0, .slice none 0 0, .int .u64 0, .int .u64 0, .int .u64 0, .int .u64 0]) by rw [← hV0, ← hvb]; exact rowL_alloc W3 [.int .i64 0, .int .i64 0, .int .u64 0, .slice none 0 0, .slice none 0 0, .slice none 0 0, .slice none 0 0, .slice none 0 0, .slice none 0 0, .slice none 0 0, .int .u64 0, .int .u64 0, .int .u64 0, .int .u64 0] _ rfl)
  have sz0 : V0.heap.size = vb + 1 := by rw [← hV0, ← hvb]; simp
  have HLT : W0.heap.size < vb := by have := HB3.out.size; omega
  go_upto_region 8 with (fail)
  try simp only [hV0]
  try simp only [hvb]
  clear hV0 hvb x0 x1 x2 x3 x4 x5 HB2 HB3 HR1 HB1 hW1 l1 CH SZ
  try clear y0 y1 y2 y3 y4 y5 m0
  have c0 : V0.cell? ⟨b, off, none⟩ = some (.int .u64 (f 0)) := by simpa using HS.out V0 (K.out V0 HBV.out).1 0 (by omega)
  have v0 := HRV.out.cell (i := 0) (by decide)
  have v1 := HRV.out.cell (i := 1) (by decide)
  have v2 := HRV.out.cell (i := 2) (by decide)
  have vf : ∀ i, V0.frozen? ⟨vb, i, none⟩ = false := fun i => HRV.out.frozen i
  simp only [lrow] at v0 v1 v2
  go_upto_region 9 with (go_at_call 34; refine (PA.out _).mono ?_; rintro e w1 ⟨rfl, hq⟩; obtain rfl := hq.symm)
  obtain ⟨V1, hV1⟩ : ∃ V, (((V0.setCell ⟨vb, 0, none⟩ (.int .i64 (f 0 % 8))).setCell ⟨vb, 1, none⟩ (.int .i64 (f 0 / 8 % 2))).setCell ⟨vb, 2, none⟩ (.int .u64 (f 0 / 256))) = V := ⟨_, rfl⟩
  have RV1 := hide (show V1.rowIs vb 31 14 (lrow (vcs (pc ⟨o, s, h, r, k⟩ f 0 0 0 0 [] [] [] 0) av0)) by
    rw [← hV1]
    exact row_set (row_set (row_set HRV.out rfl 0 _) rfl 1 _) rfl 2 _)
  have BX1 := hide (show Bx vb vb V0 V1 by rw [← hV1]; exact (((Bx.refl _ _ _).set _ _).set _ _).set _ _)
  have HBV1 := hide (HBV.out.trans (BX1.out.low.mono (by omega)))
  have RA1 := hide (show V1.rowIs W0.heap.size 31 14 (lrow [.int .i64 0, .int .i64 0, .int .u64 0, .slice none 0 0, .slice none 0 0, .slice none 0 0, .slice none 0 0, .slice none 0 0, .slice none 0 0, .slice none 0 0, .int .u64 0, .int .u64 0, .int .u64 0, .int .u64 0]) from BX1.out.row HRA.out HLT (by omega))
  have sz1 : V1.heap.size = vb + 1 := by rw [← hV1]; simp [sz0]
  try simp only [hV1]
  clear hV1 v0 v1 v2 vf c0 HRA HRV HBV PA f0 i0 BX1 sz0
  obtain ⟨bw1, l3, x0, x1, x2, x3, x4, x5⟩ := K.out V1 HBV1.out
  have BW1 := hide bw1
  have hh7 : h ≤ 7 := H.h2
  have hh1 : 1 ≤ h := H.h1
  have AK := hide (rs_ack (s5 := s5) H V1)
  obtain ⟨p, hsl, hp⟩ := slice_run (b := b) (off := off) (z := z) (cap := cap) 8 h (by have := LO.out; (try simp only at this); omega)
  simp only [show ((8 : Nat) : Int) = 8 from rfl] at hsl
  have HP := hide hp
  clear bw1 hp
  go_upto_region 11 with (first
    | (go_at_call 35; refine AK.out.mono ?_; rintro e w4 ⟨rfl, hb4⟩; have HB4 := hide hb4; obtain ⟨-, -, -, -, y2, -, -, -⟩ := K.out w4 (HBV1.out.trans (hb4.mono HBV1.out.size)); have CV := hide (copied_r (w := w4) (cap := cap - 8) (part_sees (at' := 8) (n := h) HSS.out (BW1.out.trans (HB4.out.mono BW1.out.size)) hB (by have := LO.out; (try simp only at this); omega) HP.out) (by simp) (by omega)); clear hb4)
    | (go_at_call 36; refine CV.out.mono ?_; rintro e w5 ⟨⟨ga, ca, rfl, HO5⟩, hb5⟩; have HB5 := hide (HB4.out.trans (hb5.mono HB4.out.size)); clear hb5; have e3 := (row_on RV1.out HB5.out).cell (i := 3) (by decide); have fz3 := (row_on RV1.out HB5.out).frozen 3))
  obtain ⟨X0, hX0⟩ : ∃ W, w5.setCell ⟨vb, 3, none⟩ (.slice ga h ca) = W := ⟨_, rfl⟩
  have RV := hide (show X0.rowIs vb 31 14 (lrow (vcs (pc ⟨o, s, h, r, k⟩ f h 0 0 0 [] [] [] 0) ⟨ga, ca, none, 0, none, 0, none, 0, none, 0, none, 0, none, 0⟩)) by
    rw [← hX0]
    exact row_set (row_on RV1.out HB5.out) rfl 3 _)
  have RA := hide (show X0.rowIs W0.heap.size 31 14 (lrow [.int .i64 0, .int .i64 0, .int .u64 0, .slice none 0 0, .slice none 0 0, .slice none 0 0, .slice none 0 0, .slice none 0 0, .slice none 0 0, .slice none 0 0, .int .u64 0, .int .u64 0, .int .u64 0, .int .u64 0]) by
    rw [← hX0]
    exact (row_on RA1.out HB5.out).of_block (Below.heap_setCell _ _ _ _ (by simp only; omega)))
  have HBX := hide (show Below W0.heap.size W0 X0 by rw [← hX0]; exact (HBV1.out.trans (HB5.out.mono HBV1.out.size)).setCell (by simp only; omega) _)
  have szx : vb + 1 ≤ X0.heap.size := by rw [← hX0]; have := HB5.out.size; simp; omega
  have OX := hide (show Owns X0 (vb + 1) (pc ⟨o, s, h, r, k⟩ f h 0 0 0 [] [] [] 0) ⟨ga, ca, none, 0, none, 0, none, 0, none, 0, none, 0, none, 0⟩ by
    have := HB4.out.size
    have h0 := owns_pc0 X0 (vb + 1) ⟨o, s, h, r, k⟩ f
    refine ⟨?_, h0.rt, h0.wk, h0.ob, h0.fr, h0.gr, h0.qu⟩
    rw [← hX0]
    exact owns_low (owns_set HO5.out (by simp only; omega) _) (by omega))
  try simp only [hX0]
  clear hX0 e3 fz3 x0 x1 x2 x3 x4 x5 y2 RV1 RA1 HO5 HB5 CV AK HB4 HBV1 sz1 BW1 hsl HP l3
  try clear l0
  obtain ⟨-, -, -, -, x2, -, -, -⟩ := K.out X0 HBX.out
  obtain ⟨iS, hiS, hzS, hsS, hyS⟩ := infoS
  have hr8 : r ≤ 8 := H.r2
  go_wp2_with fail
  go_loopw [12] (fun i wr => ∃ (q : Nat) (ra : Option Addr) (cr : Nat), q ≤ h ∧ i = .int .i64 (q : Int) ∧ Hid (wr.rowIs vb 31 14 (lrow (vcs (pc ⟨o, s, h, r, k⟩ f h q 0 0 [] [] [] 0) ⟨ga, ca, ra, cr, none, 0, none, 0, none, 0, none, 0, none, 0⟩))) ∧ Hid (∃ rs, wr.ownsRow X0.heap.size 25 1 (.slice ra q cr) q rs ∧ ∀ j, j < q → ∃ ai ci, rs[j]? = some (.slice ai r ci) ∧ wr.ownsRow X0.heap.size 24 1 (.slice ai r ci) r (wcs r (fun p => f (bR ⟨o, s, h, r, k⟩ + j * r + p)))) ∧ Hid (Bx X0.heap.size vb X0 wr)) (fun i _ => h - (intOf i).toNat)
  case atStart => exact ⟨0, none, 0, Nat.zero_le _, rfl, RV.out, ⟨[], World.ownsRow_nil _ _ _ _, fun j hj => absurd hj (by omega)⟩, Bx.refl _ _ _⟩
  case round =>
    obtain ⟨q, ra, cr, hq, rfl, RVr, ORI, BXr⟩ := hrel
    have HBr := hide (HBX.out.trans (BXr.out.low.mono (by omega)))
    have szr : X0.heap.size ≤ wr.heap.size := BXr.out.low.size
    obtain ⟨-, -, -, -, z2, -, -, -⟩ := K.out wr HBr.out
    by_cases hlt : q < h
    · have hlt' : (q : Int) < (h : Int) := by omega
      obtain ⟨rs, hor, hoi⟩ := ORI.out
      have ORr := hide hor
      have OIr := hide hoi
      clear hor hoi
      have RO := hide (fun w1 => rs_root (s5 := s5) H hlt w1)
      have hfit : bR ⟨o, s, h, r, k⟩ + q * r + r ≤ z := by rw [← hz]; have := (at_root H (show q < (⟨o, s, h, r, k⟩ : Sh).h from hlt)).1; have := LO.out; (try simp only at *); omega
      obtain ⟨a1, ha1⟩ : ∃ a1, bR ⟨o, s, h, r, k⟩ + q * r = a1 := ⟨_, rfl⟩
      rw [ha1] at RO hfit
      have HA1 := hide ha1
      clear ha1
      obtain ⟨p1, hsl1, hp1⟩ := slice_run (b := b) (off := off) (z := z) (cap := cap) a1 r (by omega)
      have HP1 := hide hp1
      clear hp1
      obtain ⟨-, -, z0, z1, -, z3, z4, z5⟩ := K.out wr HBr.out
      go_upto_region 15 with (go_at_call 37; refine (RO.out _).mono ?_; rintro e w4 ⟨rfl, hb4⟩; have HB4 := hide hb4; clear hb4)
      clear z0 z1 z2 z3 z4 z5
      have hs4 : wr.heap.size ≤ w4.heap.size := HB4.out.size
      have RVq := hide (row_on RVr.out HB4.out)
      have ORq := hide (owns_on ORr.out HB4.out)
      have OIq := hide (show ∀ j, j < q → ∃ ai ci, rs[j]? = some (.slice ai r ci) ∧ w4.ownsRow X0.heap.size 24 1 (.slice ai r ci) r (wcs r (fun p => f (bR ⟨o, s, h, r, k⟩ + j * r + p))) from fun j hj => by obtain ⟨ai, ci, h1, h2⟩ := OIr.out j hj; exact ⟨ai, ci, h1, owns_on h2 HB4.out⟩)
      have BXs := hide (BXr.out.below HB4.out (Nat.le_refl _) (by omega))
      have HBq := hide (HBX.out.trans (BXs.out.low.mono (by omega)))
      have szq : X0.heap.size ≤ w4.heap.size := by omega
      clear RVr ORr OIr BXr HBr szr ORI RO
      obtain ⟨wq, hwq⟩ : ∃ W : World, W = w4 := ⟨_, rfl⟩
      subst hwq
      refine LtH.region2 (ks := [(0, 77), (1, 78), (2, 79), (3, 80), (4, 81), (5, 82), (6, 83), (7, 84), (12, 89)]) (vals := fun iv => match iv with | 0 => .pointer (some ⟨vb, 4, none⟩) | 1 => .slice ra q cr | 2 => .slice (some ⟨b, off, none⟩) z cap | 3 => .int .i64 (a1 : Int) | 4 => .int .i64 (a1 : Int) | 5 => .pointer (some ⟨w.heap.size, 3, none⟩) | 6 => .int .i64 (r : Int) | 7 => .int .i64 ((a1 : Int) + (r : Int)) | 12 => .pointer (some ⟨vb, 4, none⟩) | _ => undef) (xs := [85, 86, 87, 88]) (WI := LtC.WI [8, 9, 10, 11, 13] 11 1 (AS wq X0.heap.size vb 4 25 1 (.slice ra q cr) q rs 85 86 87 88 (fun v => v = .slice (some p1) r (cap - a1)) (fun w2 v => ∃ g gc, v = .slice g r gc ∧ w2.ownsRow wq.heap.size 24 1 v r (wcs r (fun i => f (a1 + i)))))) (by kernel_rfl) ?Agd ?Abk rfl ?Add ?Axx ?Alc ?Ast ?Ado ?Afi
      case Agd =>
        intro iq oq ho
        have hiq : iq < 14 := by have := (Array.getElem?_eq_some_iff.1 ho).1; simpa using this
        match iq, hiq with
        | 0, _ | 1, _ | 2, _ | 3, _ | 4, _ | 5, _ | 6, _ | 7, _ | 8, _ | 9, _ | 10, _ | 11, _ | 12, _ | 13, _ => injection ho with ho; subst ho; rfl
      case Abk =>
        intro iq oq ho
        have hiq : iq < 14 := by have := (Array.getElem?_eq_some_iff.1 ho).1; simpa using this
        match iq, hiq with
        | 0, _ | 1, _ | 2, _ | 3, _ | 4, _ | 5, _ | 6, _ | 7, _ | 8, _ | 9, _ | 10, _ | 11, _ | 12, _ | 13, _ => injection ho with ho; subst ho; simp [Region.binds]
      case Add =>
        intro kq hk
        have hk2 : kq < 208 := by
          simp [Lt.D] at hk
          omega
        exact hk2
      case Axx =>
        intro kq hk
        have hk2 : kq < 208 := by
          simp at hk
          omega
        exact hk2
      case Alc =>
        rintro L s1 s2 w1 hx ⟨⟨n1, h1, h2, h3⟩, h4⟩
        exact ⟨⟨n1, h1, h2, AS.local (hx 85 rfl) (hx 86 rfl) (hx 87 rfl) (hx 88 rfl) h3⟩, h4⟩
      case Ast => exact LtC.WI.start ⟨rfl, rfl, rfl, Nat.le_refl _, fun _ _ => rfl⟩
      case Ado =>
        intro iq oq ho
        have hiq : iq < 14 := by have := (Array.getElem?_eq_some_iff.1 ho).1; simpa using this
        match iq, hiq with
        | 0, _ => injection ho with ho; subst ho; exact LtC.read rfl rfl rfl (fun L a w' hI hL hq => Lt.ex_field rfl (hI.fix 9 (Lt.notD rfl) rfl) (by simp [go_sem]))
        | 1, _ => injection ho with ho; subst ho; exact LtC.read rfl rfl rfl (fun L a w' hI hL hq => Lt.ex_load rfl (hI.pure 0 _ _ rfl (hq ⟨0, .data⟩ (by simp) rfl)) (by simp [go_sem]) (by obtain ⟨n1, hn1, hA1⟩ := hI.world.early (m := 3) rfl hL; exact (row_on RVq.out (AS.early hn1 hA1)).cell (i := 4) (by decide)))
        | 2, _ => injection ho with ho; subst ho; exact LtC.read rfl rfl rfl (fun L a w' hI hL hq => Lt.ex_move rfl (hI.fix 1 (Lt.notD rfl) rfl))
        | 3, _ => injection ho with ho; subst ho; exact LtC.read rfl rfl rfl (fun L a w' hI hL hq => Lt.ex_move rfl (hI.fix 13 (Lt.notD rfl) rfl))
        | 4, _ => injection ho with ho; subst ho; exact LtC.read rfl rfl rfl (fun L a w' hI hL hq => Lt.ex_move rfl (hI.fix 13 (Lt.notD rfl) rfl))
        | 5, _ => injection ho with ho; subst ho; exact LtC.read rfl rfl rfl (fun L a w' hI hL hq => Lt.ex_field rfl (hI.fix 2 (Lt.notD rfl) rfl) (by simp [go_sem]))
        | 6, _ => injection ho with ho; subst ho; exact LtC.read rfl rfl rfl (fun L a w' hI hL hq => Lt.ex_load rfl (hI.pure 5 _ _ rfl (hq ⟨5, .data⟩ (by simp) rfl)) (by simp [go_sem]) (by obtain ⟨n1, hn1⟩ := hI.world.any; obtain ⟨-, -, -, -, -, yq, -, -⟩ := K.out w' (HBq.out.trans ((AS.low (by omega) szq ORq.out hn1).mono (by omega))); exact yq))
        | 7, _ => injection ho with ho; subst ho; exact LtC.read rfl rfl rfl (fun L a w' hI hL hq => Lt.ex_addI rfl (hI.pure 4 _ _ rfl (hq ⟨4, .data⟩ (by simp) rfl)) (hI.pure 6 _ _ rfl (hq ⟨6, .data⟩ (by simp) rfl)) (wJ rfl (by omega) (by omega)))
        | 8, _ => injection ho with ho; subst ho; exact LtC.link (m := 0) (by decide) rfl rfl rfl rfl (fun L _ e => absurd e (by decide)) (fun L hq m1 j1 e1 _ => absurd e1 (by omega)) (fun L a w' Kq hI hq hS hk => Lt.wp_value (ex_sliceW rfl (hI.pure 2 _ _ rfl (hq ⟨2, .data⟩ (by simp) rfl)) (hI.pure 3 _ _ rfl (hq ⟨3, .data⟩ (by simp) rfl)) (hI.pure 7 _ _ rfl (hq ⟨7, .data⟩ (by simp) rfl)) hsl1) (hk _ _ ⟨hS, by simp⟩))
        | 9, _ => injection ho with ho; subst ho; exact LtC.call (m := 1) (args := fun s1 => #[s1 85]) (by decide) rfl rfl rfl rfl (fun L _ e => absurd e (by decide)) (fun L hq m1 j1 e1 hj => by (cases (show m1 = 0 from (by omega))); cases hj; exact hq ⟨8, .data⟩ (by simp) rfl) (fun L a w' hI hq hS => Lt.call1 rfl rfl rfl (by simp [go_sem])) (fun s1 w1 hS => by obtain ⟨hb1, e1⟩ := hS; simp only [e1]; refine (copied_r (w := w1) (cap := cap - a1) (part_sees (at' := a1) (n := r) HSS.out ((K.out wq HBq.out).1.trans (hb1.mono (K.out wq HBq.out).1.size)) hB hfit HP1.out) (by simp) (by omega)).mono ?_; rintro e w2 ⟨⟨g, gc, rfl, HO2⟩, hb2⟩; exact ⟨_, rfl, hb1.trans (hb2.mono hb1.size), ⟨g, gc, by simp, by simpa using owns_low HO2.out hb1.size⟩⟩)
        | 10, _ => injection ho with ho; subst ho; exact LtC.link (m := 2) (by decide) rfl rfl rfl rfl (fun L _ e => absurd e (by decide)) (fun L hq m1 j1 e1 hj => by (cases (show m1 = 1 from (by omega))); cases hj; exact hq ⟨9, .data⟩ (by simp) rfl) (fun L a w' Kq hI hq hS hk => by obtain ⟨hb1, g, gc, e1, HO1⟩ := hS; refine Lt.wp_value (ex_bsS rfl e1) (hk _ _ ?_); refine ⟨hb1.alloc hb1.size _, ⟨g, gc, by simpa using e1, by simpa using HO1.alloc _⟩, w'.heap.size, by simp, ?_⟩; intro j u hj; simp only [show (86 : Nat) = 87 ↔ False by decide, if_false] at hj; rw [show a.eval (.tmp 86) = _ from e1] at hj; exact cell_one_new w' _ _ j u (by simpa [Value.cells] using hj))
        | 11, _ => injection ho with ho; subst ho; exact LtC.link (m := 3) (by decide) rfl rfl rfl rfl (fun L hq e => hq ⟨1, .data⟩ (by simp) rfl) (fun L hq m1 j1 e1 hj => by (cases (show m1 = 2 from (by omega))); cases hj; exact hq ⟨10, .data⟩ (by simp) rfl) (fun L a w' Kq hI hq hS hk => by obtain ⟨hb1, ⟨g, gc, e1, HO1⟩, g6, e6, hc6⟩ := hS; exact wp_append (.tmp 78) (.tmp 87) 26 rfl X0.heap.size 25 iS (.slice none 0 0) 1 24 Tryz.underlying26 hiS hzS hsS hyS rfl (by decide) (.slice ra q cr) q rs (hI.pure 1 _ _ rfl (hq ⟨1, .data⟩ (by simp) rfl)) (owns_on ORq.out hb1) ⟨g6, 0, none⟩ 1 1 (a.eval (.tmp 86)).cells.toList e6 (by rw [show a.eval (.tmp 86) = _ from e1]; rfl) (fun j u hj => hc6 j u hj) (by rw [show a.eval (.tmp 86) = _ from e1]; simp [Value.cells, Value.oneCell']) (by unfold maxLen; omega) (by omega) (by have := hb1.size; omega) (fun v2 w2 hown hgr => hk v2 w2 ⟨w', hb1, ⟨g, gc, by simpa using e1, by simpa using HO1⟩, hgr, by simpa using hown⟩))
        | 12, _ => injection ho with ho; subst ho; exact LtC.read rfl rfl rfl (fun L a w' hI hL hq => Lt.ex_field rfl (hI.fix 9 (Lt.notD rfl) rfl) (by simp [go_sem]))
        | 13, _ => injection ho with ho; subst ho; exact LtC.store (m := 4) (by decide) rfl rfl rfl (fun L _ e => absurd e (by decide)) (fun L hq m1 j1 e1 hj => by (cases (show m1 = 3 from (by omega))); cases hj; exact hq ⟨11, .data⟩ (by simp) rfl) (fun L a w' Kq hI hq hS hk => by obtain ⟨w6, hb6, hB6, hgr, hown⟩ := hS; obtain ⟨ao, cp, e4⟩ := own_slice hown; have R6 := (row_on RVq.out hb6).of_block (hgr.block vb (by have := hb6.size; omega) (fun e => by have := (ORq.out.lt vb e.symm).1; omega)); exact wp_storeS rfl rfl (hI.pure 12 _ _ rfl (hq ⟨12, .data⟩ (by simp) rfl)) e4 (by kernel_rfl) (R6.cell (i := 4) (by decide)) (R6.frozen 4) (hk _ _ ⟨w6, w', hb6, hB6, hgr, hown, by rw [show (fun k => a.eval (.tmp k)) 88 = _ from e4]⟩))
      case Afi =>
        intro L a' w' hI hall
        have hdone := hI.world.done (fun i hi => hall i (by simp at hi ⊢; omega))
        have BXq := hide (AS.bx (by omega) szq ORq.out hdone)
        obtain ⟨h4, ⟨w6, hb6, ⟨g, gc, eg, HOg⟩, hk6⟩, hkr, hrow, hlow⟩ := AS.end (by omega) szq ORq.out hdone
        have hfr := LtH.frame hI [77, 78, 79, 80, 81, 82, 83, 84, 85, 86, 87, 88, 89] rfl rfl (fun x hx => by simp at hx ⊢; omega)
        have e77 : a'.eval (.tmp 77) = .pointer (some ⟨vb, 4, none⟩) := hI.pure 0 _ _ rfl (hall 0 (by decide))
        have e78 : a'.eval (.tmp 78) = .slice ra q cr := hI.pure 1 _ _ rfl (hall 1 (by decide))
        have e79 : a'.eval (.tmp 79) = .slice (some ⟨b, off, none⟩) z cap := hI.pure 2 _ _ rfl (hall 2 (by decide))
        have e80 : a'.eval (.tmp 80) = .int .i64 (a1 : Int) := hI.pure 3 _ _ rfl (hall 3 (by decide))
        have e81 : a'.eval (.tmp 81) = .int .i64 (a1 : Int) := hI.pure 4 _ _ rfl (hall 4 (by decide))
        have e82 : a'.eval (.tmp 82) = .pointer (some ⟨w.heap.size, 3, none⟩) := hI.pure 5 _ _ rfl (hall 5 (by decide))
        have e83 : a'.eval (.tmp 83) = .int .i64 (r : Int) := hI.pure 6 _ _ rfl (hall 6 (by decide))
        have e84 : a'.eval (.tmp 84) = .int .i64 ((a1 : Int) + (r : Int)) := hI.pure 7 _ _ rfl (hall 7 (by decide))
        have e89 : a'.eval (.tmp 89) = .pointer (some ⟨vb, 4, none⟩) := hI.pure 12 _ _ rfl (hall 12 (by decide))
        obtain ⟨t85, e85⟩ : ∃ t, a'.eval (.tmp 85) = t := ⟨_, rfl⟩
        obtain ⟨t86, e86⟩ : ∃ t, a'.eval (.tmp 86) = t := ⟨_, rfl⟩
        obtain ⟨t87, e87⟩ : ∃ t, a'.eval (.tmp 87) = t := ⟨_, rfl⟩
        obtain ⟨t88, e88⟩ : ∃ t, a'.eval (.tmp 88) = t := ⟨_, rfl⟩
        simp only [e86, e88] at h4 eg HOg hrow
        have H4 := hide h4
        have HK6 := hide hk6
        have HKR := hide hkr
        have HRW := hide (hrow _ _ _ RVq.out rfl)
        have HGG := hide HOg
        have EG := hide eg
        obtain ⟨ra2, cr2, e88b⟩ := own_slice h4
        rw [hfr]
        simp only [LtH.lay, List.foldl, e77, e78, e79, e80, e81, e82, e83, e84, e85, e86, e87, e88, e89]
        have HE88 := hide e88b
        clear hfr hI hall e77 e78 e79 e80 e81 e82 e83 e84 e85 e86 e87 e88 e89 h4 hk6 hkr hrow hlow HOg eg hdone e88b
        simp only [Act.put, List.setIfInBounds_toArray, List.set_cons_succ, List.set_cons_zero]
        go_wp2_with fail
        go_roundw
        case rel =>
          refine ⟨q + 1, ra2, cr2, by omega, by go_num, ?_, ⟨rs ++ [t86], ?_, ?_⟩, BXs.out.trans BXq.out⟩
          · have h5 := HRW.out
            rw [HE88.out] at h5
            exact h5
          · have h5 := H4.out
            rw [HE88.out, EG.out] at h5
            rw [EG.out]
            exact h5
          · intro j hj
            have hrl : rs.length = q := by have := ORq.out.1; omega
            by_cases hjq : j < q
            · obtain ⟨ai, ci, h1, h2⟩ := OIq.out j hjq
              exact ⟨ai, ci, by rw [List.getElem?_append_left (by omega)]; exact h1, HKR.out _ _ _ _ _ (by decide) h2⟩
            · have hjq2 : j = q := by omega
              subst hjq2
              refine ⟨g, gc, by rw [List.getElem?_append_right (by omega), hrl]; simp [EG.out], HK6.out _ _ _ _ _ (by decide) ?_⟩
              have h6 := owns_low HGG.out szq
              rw [EG.out] at h6
              rw [HA1.out]
              exact h6
        case measure => simp [intOf]; omega
    · have hlt' : ¬ (q : Int) < (h : Int) := by omega
      have hqh : h = q := by omega
      subst hqh
      obtain ⟨X1, hX1⟩ : ∃ W : World, W = wr := ⟨_, rfl⟩
      subst hX1
      have O1 := hide (show Owns X1 (vb + 1) (pc ⟨o, s, h, r, k⟩ f h h 0 0 [] [] [] 0) ⟨ga, ca, ra, cr, none, 0, none, 0, none, 0, none, 0, none, 0⟩ by
        have h1 := OX.out.bx BXr.out (by omega)
        obtain ⟨rs, h2, h3⟩ := ORI.out
        exact ⟨h1.ac, ⟨rs, owns_low h2 (by omega), fun j hj => by obtain ⟨ai, ci, h4, h5⟩ := h3 j hj; exact ⟨ai, ci, h4, owns_low h5 (by omega)⟩⟩, h1.wk, h1.ob, h1.fr, h1.gr, h1.qu⟩)
      have RA1 := hide (BXr.out.row RA.out (by omega) (by omega))
      have RV1 := RVr
      have HB1 := HBr
      have sz1 : vb + 1 ≤ X1.heap.size := by omega
      clear OX RA RV HBX ORI BXr RVr HBr szr szx x2 hq
      obtain ⟨-, -, -, -, -, -, x4, -⟩ := K.out X1 HB1.out
      obtain ⟨iU, hiU, hzU, hsU, hyU⟩ := infoU
      have hk16 : k ≤ 16 := H.k2
      go_wp2_with fail
      go_loopw [15] (fun i wr => ∃ (q : Nat) (wa : Option Addr) (cw : Nat), q ≤ k ∧ i = .int .i64 (q : Int) ∧ Hid (wr.rowIs vb 31 14 (lrow (vcs (pc ⟨o, s, h, r, k⟩ f h h q 0 [] [] [] 0) ⟨ga, ca, ra, cr, wa, cw, none, 0, none, 0, none, 0, none, 0⟩))) ∧ Hid (wr.ownsRow X1.heap.size 24 1 (.slice wa q cw) q (wcs q (fun p => f (bK ⟨o, s, h, r, k⟩ + p)))) ∧ Hid (Bx X1.heap.size vb X1 wr)) (fun i _ => k - (intOf i).toNat)
      case atStart => exact ⟨0, none, 0, Nat.zero_le _, rfl, RV1.out, World.ownsRow_nil _ _ _ _, Bx.refl _ _ _⟩
      case round =>
        obtain ⟨q, wa, cw, hq, rfl, RVr, ORr, BXr⟩ := hrel
        have HBr := hide (HB1.out.trans (BXr.out.low.mono (by omega)))
        have szr : X1.heap.size ≤ wr.heap.size := BXr.out.low.size
        obtain ⟨-, -, -, -, -, -, z4, -⟩ := K.out wr HBr.out
        by_cases hlt : q < k
        · have hlt' : (q : Int) < (k : Int) := by omega
          have WO := hide (fun w1 => rs_weak (s5 := s5) H hlt w1)
          have hfit : bK ⟨o, s, h, r, k⟩ + q < z := by rw [← hz]; have := LO.out; (try simp only at this); omega
          obtain ⟨a1, ha1⟩ : ∃ a1, bK ⟨o, s, h, r, k⟩ + q = a1 := ⟨_, rfl⟩
          rw [ha1] at WO hfit
          have HA1 := hide ha1
          clear ha1
          obtain ⟨-, -, z0, z1, z2, z3, -, z5⟩ := K.out wr HBr.out
          go_upto_region 20 with (go_at_call 38; refine (WO.out _).mono ?_; rintro e w4 ⟨rfl, hb4⟩; have HB4 := hide hb4; clear hb4)
          clear z0 z1 z2 z3 z4 z5
          have hs4 : wr.heap.size ≤ w4.heap.size := HB4.out.size
          have RVq := hide (row_on RVr.out HB4.out)
          have ORq := hide (owns_on ORr.out HB4.out)
          have BXs := hide (BXr.out.below HB4.out (Nat.le_refl _) (by omega))
          have HBq := hide (HB1.out.trans (BXs.out.low.mono (by omega)))
          have szq : X1.heap.size ≤ w4.heap.size := by omega
          clear RVr ORr BXr HBr szr WO
          obtain ⟨wq, hwq⟩ : ∃ W : World, W = w4 := ⟨_, rfl⟩
          subst hwq
          refine LtH.region2 (ks := [(0, 102), (1, 103), (2, 104), (3, 105), (8, 110)]) (vals := fun iv => match iv with | 0 => .pointer (some ⟨vb, 5, none⟩) | 1 => .slice wa q cw | 2 => .slice (some ⟨b, off, none⟩) z cap | 3 => .int .i64 (a1 : Int) | 8 => .pointer (some ⟨vb, 5, none⟩) | _ => undef) (xs := [106, 107, 108, 109]) (WI := LtC.WI [4, 5, 6, 7, 9] 7 1 (AS wq X1.heap.size vb 5 24 1 (.slice wa q cw) q (wcs q (fun p => f (bK ⟨o, s, h, r, k⟩ + p))) 106 107 108 109 (fun v => v = .pointer (some ⟨b, off + a1, none⟩)) (fun w2 v => v = .int .u64 (f a1)))) (by kernel_rfl) ?Bgd ?Bbk rfl ?Bdd ?Bxx ?Blc ?Bst ?Bdo ?Bfi
          case Bgd =>
            intro iq oq ho
            have hiq : iq < 10 := by have := (Array.getElem?_eq_some_iff.1 ho).1; simpa using this
            match iq, hiq with
            | 0, _ | 1, _ | 2, _ | 3, _ | 4, _ | 5, _ | 6, _ | 7, _ | 8, _ | 9, _ => injection ho with ho; subst ho; rfl
          case Bbk =>
            intro iq oq ho
            have hiq : iq < 10 := by have := (Array.getElem?_eq_some_iff.1 ho).1; simpa using this
            match iq, hiq with
            | 0, _ | 1, _ | 2, _ | 3, _ | 4, _ | 5, _ | 6, _ | 7, _ | 8, _ | 9, _ => injection ho with ho; subst ho; simp [Region.binds]
          case Bdd =>
            intro kq hk
            have hk2 : kq < 208 := by
              simp [Lt.D] at hk
              omega
            exact hk2
          case Bxx =>
            intro kq hk
            have hk2 : kq < 208 := by
              simp at hk
              omega
            exact hk2
          case Blc =>
            rintro L s1 s2 w1 hx ⟨⟨n1, h1, h2, h3⟩, h4⟩
            exact ⟨⟨n1, h1, h2, AS.local (hx 106 rfl) (hx 107 rfl) (hx 108 rfl) (hx 109 rfl) h3⟩, h4⟩
          case Bst => exact LtC.WI.start ⟨rfl, rfl, rfl, Nat.le_refl _, fun _ _ => rfl⟩
          case Bdo =>
            intro iq oq ho
            have hiq : iq < 10 := by have := (Array.getElem?_eq_some_iff.1 ho).1; simpa using this
            match iq, hiq with
            | 0, _ => injection ho with ho; subst ho; exact LtC.read rfl rfl rfl (fun L a w' hI hL hq => Lt.ex_field rfl (hI.fix 9 (Lt.notD rfl) rfl) (by simp [go_sem]))
            | 1, _ => injection ho with ho; subst ho; exact LtC.read rfl rfl rfl (fun L a w' hI hL hq => Lt.ex_load rfl (hI.pure 0 _ _ rfl (hq ⟨0, .data⟩ (by simp) rfl)) (by simp [go_sem]) (by obtain ⟨n1, hn1, hA1⟩ := hI.world.early (m := 3) rfl hL; exact (row_on RVq.out (AS.early hn1 hA1)).cell (i := 5) (by decide)))
            | 2, _ => injection ho with ho; subst ho; exact LtC.read rfl rfl rfl (fun L a w' hI hL hq => Lt.ex_move rfl (hI.fix 1 (Lt.notD rfl) rfl))
            | 3, _ => injection ho with ho; subst ho; exact LtC.read rfl rfl rfl (fun L a w' hI hL hq => Lt.ex_move rfl (hI.fix 16 (Lt.notD rfl) rfl))
            | 4, _ => injection ho with ho; subst ho; exact LtC.link (m := 0) (by decide) rfl rfl rfl rfl (fun L _ e => absurd e (by decide)) (fun L hq m1 j1 e1 _ => absurd e1 (by omega)) (fun L a w' Kq hI hq hS hk => Lt.wp_value (ex_idxN (k := a1) rfl (hI.pure 2 _ _ rfl (hq ⟨2, .data⟩ (by simp) rfl)) (hI.pure 3 _ _ rfl (hq ⟨3, .data⟩ (by simp) rfl)) (by omega)) (hk _ _ ⟨hS, by simp⟩))
            | 5, _ => injection ho with ho; subst ho; exact LtC.link (m := 1) (by decide) rfl rfl rfl rfl (fun L _ e => absurd e (by decide)) (fun L hq m1 j1 e1 hj => by (cases (show m1 = 0 from (by omega))); cases hj; exact hq ⟨4, .data⟩ (by simp) rfl) (fun L a w' Kq hI hq hS hk => by obtain ⟨hb1, e1⟩ := hS; exact Lt.wp_value (Lt.ex_load rfl e1 (by simp [go_sem]) (by have := HS.out w' ((K.out wq HBq.out).1.trans (hb1.mono (K.out wq HBq.out).1.size)) a1 (by omega); exact this)) (hk _ _ ⟨hb1, by simp⟩))
            | 6, _ => injection ho with ho; subst ho; exact LtC.link (m := 2) (by decide) rfl rfl rfl rfl (fun L _ e => absurd e (by decide)) (fun L hq m1 j1 e1 hj => by (cases (show m1 = 1 from (by omega))); cases hj; exact hq ⟨5, .data⟩ (by simp) rfl) (fun L a w' Kq hI hq hS hk => by obtain ⟨hb1, e1⟩ := hS; refine Lt.wp_value (ex_bsW rfl e1) (hk _ _ ?_); refine ⟨hb1.alloc hb1.size _, by simpa using e1, w'.heap.size, by simp, ?_⟩; intro j u hj; simp only [show (107 : Nat) = 108 ↔ False by decide, if_false] at hj; rw [show a.eval (.tmp 107) = _ from e1] at hj; exact cell_one_new w' _ _ j u (by simpa [Value.cells] using hj))
            | 7, _ => injection ho with ho; subst ho; exact LtC.link (m := 3) (by decide) rfl rfl rfl rfl (fun L hq e => hq ⟨1, .data⟩ (by simp) rfl) (fun L hq m1 j1 e1 hj => by (cases (show m1 = 2 from (by omega))); cases hj; exact hq ⟨6, .data⟩ (by simp) rfl) (fun L a w' Kq hI hq hS hk => by obtain ⟨hb1, e1, g6, e6, hc6⟩ := hS; exact wp_append (.tmp 103) (.tmp 108) 25 rfl X1.heap.size 24 iU (.int .u64 0) 1 8 Tryz.underlying25 hiU hzU hsU hyU rfl (by decide) (.slice wa q cw) q _ (hI.pure 1 _ _ rfl (hq ⟨1, .data⟩ (by simp) rfl)) (owns_on ORq.out hb1) ⟨g6, 0, none⟩ 1 1 (a.eval (.tmp 107)).cells.toList e6 (by rw [show a.eval (.tmp 107) = _ from e1]; rfl) (fun j u hj => hc6 j u hj) (by rw [show a.eval (.tmp 107) = _ from e1]; simp [Value.cells, Value.oneCell']) (by unfold maxLen; omega) (by omega) (by have := hb1.size; omega) (fun v2 w2 hown hgr => hk v2 w2 ⟨w', hb1, by simpa using e1, hgr, by simpa using hown⟩))
            | 8, _ => injection ho with ho; subst ho; exact LtC.read rfl rfl rfl (fun L a w' hI hL hq => Lt.ex_field rfl (hI.fix 9 (Lt.notD rfl) rfl) (by simp [go_sem]))
            | 9, _ => injection ho with ho; subst ho; exact LtC.store (m := 4) (by decide) rfl rfl rfl (fun L _ e => absurd e (by decide)) (fun L hq m1 j1 e1 hj => by (cases (show m1 = 3 from (by omega))); cases hj; exact hq ⟨7, .data⟩ (by simp) rfl) (fun L a w' Kq hI hq hS hk => by obtain ⟨w6, hb6, hB6, hgr, hown⟩ := hS; obtain ⟨ao, cp, e4⟩ := own_slice hown; have R6 := (row_on RVq.out hb6).of_block (hgr.block vb (by have := hb6.size; omega) (fun e => by have := (ORq.out.lt vb e.symm).1; omega)); exact wp_storeS rfl rfl (hI.pure 8 _ _ rfl (hq ⟨8, .data⟩ (by simp) rfl)) e4 (by kernel_rfl) (R6.cell (i := 5) (by decide)) (R6.frozen 5) (hk _ _ ⟨w6, w', hb6, hB6, hgr, hown, by rw [show (fun k => a.eval (.tmp k)) 109 = _ from e4]⟩))
          case Bfi =>
            intro L a' w' hI hall
            have hdone := hI.world.done (fun i hi => hall i (by simp at hi ⊢; omega))
            have BXq := hide (AS.bx (by omega) szq ORq.out hdone)
            obtain ⟨h4, ⟨w6, hb6, eg, hk6⟩, hkr, hrow, hlow⟩ := AS.end (by omega) szq ORq.out hdone
            have hfr := LtH.frame hI [102, 103, 104, 105, 106, 107, 108, 109, 110] rfl rfl (fun x hx => by simp at hx ⊢; omega)
            have e102 : a'.eval (.tmp 102) = .pointer (some ⟨vb, 5, none⟩) := hI.pure 0 _ _ rfl (hall 0 (by decide))
            have e103 : a'.eval (.tmp 103) = .slice wa q cw := hI.pure 1 _ _ rfl (hall 1 (by decide))
            have e104 : a'.eval (.tmp 104) = .slice (some ⟨b, off, none⟩) z cap := hI.pure 2 _ _ rfl (hall 2 (by decide))
            have e105 : a'.eval (.tmp 105) = .int .i64 (a1 : Int) := hI.pure 3 _ _ rfl (hall 3 (by decide))
            have e110 : a'.eval (.tmp 110) = .pointer (some ⟨vb, 5, none⟩) := hI.pure 8 _ _ rfl (hall 8 (by decide))
            obtain ⟨t106, e106⟩ : ∃ t, a'.eval (.tmp 106) = t := ⟨_, rfl⟩
            obtain ⟨t107, e107⟩ : ∃ t, a'.eval (.tmp 107) = t := ⟨_, rfl⟩
            obtain ⟨t108, e108⟩ : ∃ t, a'.eval (.tmp 108) = t := ⟨_, rfl⟩
            obtain ⟨t109, e109⟩ : ∃ t, a'.eval (.tmp 109) = t := ⟨_, rfl⟩
            simp only [e107, e109] at h4 eg hrow
            have H4 := hide h4
            have HRW := hide (hrow _ _ _ RVq.out rfl)
            have EG := hide eg
            obtain ⟨wa2, cw2, e109b⟩ := own_slice h4
            rw [hfr]
            simp only [LtH.lay, List.foldl, e102, e103, e104, e105, e106, e107, e108, e109, e110]
            have HE109 := hide e109b
            clear hfr hI hall e102 e103 e104 e105 e106 e107 e108 e109 e110 h4 hk6 hkr hrow hlow eg hdone e109b
            simp only [Act.put, List.setIfInBounds_toArray, List.set_cons_succ, List.set_cons_zero]
            go_wp2_with fail
            go_roundw
            case rel =>
              refine ⟨q + 1, wa2, cw2, by omega, by go_num, ?_, ?_, BXs.out.trans BXq.out⟩
              · have h5 := HRW.out
                rw [HE109.out] at h5
                exact h5
              · have h5 := H4.out
                rw [HE109.out, EG.out, ← HA1.out] at h5
                have h6 := wcs_more q (fun p => f (bK ⟨o, s, h, r, k⟩ + p))
                rw [← h6]
                exact h5
            case measure => simp [intOf]; omega
        · have hlt' : ¬ (q : Int) < (k : Int) := by omega
          have hqk : k = q := by omega
          subst hqk
          obtain ⟨X2, hX2⟩ : ∃ W : World, W = wr := ⟨_, rfl⟩
          subst hX2
          have O2 := hide (show Owns X2 (vb + 1) (pc ⟨o, s, h, r, k⟩ f h h k 0 [] [] [] 0) ⟨ga, ca, ra, cr, wa, cw, none, 0, none, 0, none, 0, none, 0⟩ by
            have h1 := O1.out.bx BXr.out (by omega)
            exact ⟨h1.ac, h1.rt, owns_low ORr.out (by omega), h1.ob, h1.fr, h1.gr, h1.qu⟩)
          have RA2 := hide (BXr.out.row RA1.out (by omega) (by omega))
          have RV2 := RVr
          have HB2 := HBr
          have sz2 : vb + 1 ≤ X2.heap.size := by omega
          clear O1 RA1 RV1 HB1 BXr RVr HBr ORr szr sz1 x4 hq
          obtain ⟨-, -, x0, -, -, -, -, -⟩ := K.out X2 HB2.out
          obtain ⟨iO, zO, hiO, hzO, hsO, hyO, hcO⟩ := infoO
          have ho64 : o ≤ 64 := H.o2
          have hs4 : s ≤ 4 := H.s2
          go_wp2_with fail
          go_loopw [18] (fun i wr => ∃ (m : Nat) (oa : Option Addr) (cb : Nat), m ≤ o ∧ i = .int .i64 ((m : Int) + 1) ∧ Hid (wr.rowIs vb 31 14 (lrow (vcs (pc ⟨o, s, h, r, k⟩ f h h k m [] [] [] 0) ⟨ga, ca, ra, cr, wa, cw, oa, cb, none, 0, none, 0, none, 0⟩))) ∧ Hid (∃ os, wr.ownsRow X2.heap.size 46 9 (.slice oa m cb) m os ∧ ∀ j, j < m → ∃ ai ci, (∀ q, q < 9 → os[j * 9 + q]? = some ((obAt ⟨o, s, h, r, k⟩ f j).cell (.slice ai s ci) q)) ∧ wr.ownsRow X2.heap.size 24 1 (.slice ai s ci) s (wcs s (obAt ⟨o, s, h, r, k⟩ f j).sl)) ∧ Hid (Bx X2.heap.size vb X2 wr)) (fun i _ => o + 1 - (intOf i).toNat)
          case atStart => exact ⟨0, none, 0, Nat.zero_le _, rfl, RV2.out, ⟨[], World.ownsRow_nil _ _ _ _, fun j hj => absurd hj (by omega)⟩, Bx.refl _ _ _⟩
          case round =>
            obtain ⟨m, oa, cb, hm, rfl, RVr, OBr, BXr⟩ := hrel
            have HBr := hide (HB2.out.trans (BXr.out.low.mono (by omega)))
            have szr : X2.heap.size ≤ wr.heap.size := BXr.out.low.size
            obtain ⟨-, -, z0, -, -, -, -, -⟩ := K.out wr HBr.out
            by_cases hlt : m < o
            · have hlt' : (m : Int) + 1 ≤ (o : Int) := by omega
              obtain ⟨os, hor, hoi⟩ := OBr.out
              have ORr := hide hor
              have OIr := hide hoi
              clear hor hoi OBr
              have OO := hide (fun w1 => rs_obj (s5 := s5) H hlt w1)
              have hfit := (at_obj H (show m < (⟨o, s, h, r, k⟩ : Sh).o from hlt)).1
              rw [hz] at hfit
              simp only [ow] at hfit
              obtain ⟨a1, ha1⟩ : ∃ a1, pO ⟨o, s, h, r, k⟩ m = a1 := ⟨_, rfl⟩
              rw [ha1] at OO hfit
              have HA1 := hide ha1
              have fa := HF.out a1 (by omega)
              clear ha1
              have UN := hide (fun w1 => unpack_ref (f a1) fa.1 fa.2 w1)
              simp only [obj] at UN
              obtain ⟨p1, hsl1, hp1⟩ := slice_run (b := b) (off := off) (z := z) (cap := cap) (a1 + 3) s (by omega)
              simp only [show ((a1 + 3 : Nat) : Int) = (a1 : Int) + 3 from by omega] at hsl1
              have HP1 := hide hp1
              clear hp1 fa
              have ia0 : (a1 : Int) < (z : Int) := by omega
              have ia1 : (a1 : Int) + 1 < (z : Int) := by omega
              have ia2 : (a1 : Int) + 2 < (z : Int) := by omega
              have l600 : (a1 : Int) ≤ 600 := by omega
              obtain ⟨-, -, -, z1, z2, z3, z4, z5⟩ := K.out wr HBr.out
              go_upto_region 27 with (first
                | (go_at_call 39; refine (OO.out _).mono ?_; rintro e w4 ⟨rfl, hb4⟩; have HB4 := hide hb4; have c1 := HS.out w4 ((K.out wr HBr.out).1.trans (hb4.mono (K.out wr HBr.out).1.size)) a1 (by omega); clear hb4)
                | (go_at_call 40; refine (UN.out _).mono ?_; rintro e w5 ⟨rfl, hb5⟩; have HB5 := hide (HB4.out.trans (hb5.mono HB4.out.size)); clear hb5 c1; have v1 := (row_on RVr.out HB5.out).cell (i := 1) (by decide); simp only [lrow, vcs, pc] at v1; have hv5 : vb < w5.heap.size := by have := HB5.out.size; omega))
              have hb5 : b < w5.heap.size := by have := HB5.out.size; have := (K.out wr HBr.out).1.size; omega
              have hne : ¬ b = w5.heap.size := by omega
              have bw5 := (K.out wr HBr.out).1.trans (HB5.out.mono (K.out wr HBr.out).1.size)
              have d1 := HS.out w5 bw5 (a1 + 1) (by omega)
              have d2 := HS.out w5 bw5 (a1 + 2) (by omega)
              have t1 : ((a1 : Int) + 1).toNat = a1 + 1 := by omega
              have t2 : ((a1 : Int) + 2).toNat = a1 + 2 := by omega
              have HW5 := hide bw5
              clear bw5 v1 z0 z1 z2 z3 z4 z5
              go_region
              clear d1 d2 t1 t2 ia0 ia1 ia2
              obtain ⟨W8, hW8⟩ : ∃ W, (w5.alloc (.cells #[.bool (hasB (f a1) 1), .bool (numB (f a1) 2 == f 0 / 8 % 2), .bool (hasB (f a1) 4), .bool (hasB (f a1) 8), .int .i64 (f a1 / 256 % 256), .int .u64 (f a1 / 4294967296), .int .u64 (f (a1 + 1)), .int .u64 (f (a1 + 2)), .slice none 0 0] 46)).drew = W := ⟨_, rfl⟩
              obtain ⟨ob, hob⟩ : ∃ ob, w5.heap.size = ob := ⟨_, rfl⟩
              have HB8 := hide (show Below wr.heap.size wr W8 by rw [← hW8]; exact (HB5.out.alloc HB5.out.size _).drew)
              have RO8 := hide (show W8.rowIs ob 46 9 (lrow [.bool (hasB (f a1) 1), .bool (numB (f a1) 2 == f 0 / 8 % 2), .bool (hasB (f a1) 4), .bool (hasB (f a1) 8), .int .i64 (f a1 / 256 % 256), .int .u64 (f a1 / 4294967296), .int .u64 (f (a1 + 1)), .int .u64 (f (a1 + 2)), .slice none 0 0]) by
                rw [← hW8, ← hob]
                exact (rowL_alloc w5 [.bool (hasB (f a1) 1), .bool (numB (f a1) 2 == f 0 / 8 % 2), .bool (hasB (f a1) 4), .bool (hasB (f a1) 8), .int .i64 (f a1 / 256 % 256), .int .u64 (f a1 / 4294967296), .int .u64 (f (a1 + 1)), .int .u64 (f (a1 + 2)), .slice none 0 0] 46 rfl).of_block rfl)
              have hw5r : wr.heap.size ≤ ob := by rw [← hob]; exact HB5.out.size
              have s8 : ob < W8.heap.size := RO8.out.lt
              try simp only [hW8]
              try simp only [hob]
              rw [hob] at hb5 hne hv5
              clear hW8 hob
              have bw8 := (K.out wr HBr.out).1.trans (HB8.out.mono (K.out wr HBr.out).1.size)
              have HW8 := hide bw8
              have CV := hide (copied_r (w := W8) (cap := cap - (a1 + 3)) (part_sees (at' := a1 + 3) (n := s) HSS.out bw8 hB (by omega) HP1.out) (by simp) (by omega))
              have z1 : W8.cell? ⟨w.heap.size, 1, none⟩ = some (.int .i64 (s : Int)) := (K.out W8 (HBr.out.trans (HB8.out.mono (by have := HBr.out.size; omega)))).2.2.2.1
              clear bw8
              go_upto_region 29 with (go_at_call 36; refine CV.out.mono ?_; rintro e w9 ⟨⟨sg, sc, rfl, HO9⟩, hb9⟩; have HB9 := hide hb9; clear hb9; have e8 := (row_on RO8.out HB9.out).cell (i := 8) (by decide); have fz8 := (row_on RO8.out HB9.out).frozen 8)
              obtain ⟨W10, hW10⟩ : ∃ W, w9.setCell ⟨ob, 8, none⟩ (.slice sg s sc) = W := ⟨_, rfl⟩
              have hs9 : W8.heap.size ≤ w9.heap.size := HB9.out.size
              have hsz : W10.heap.size = w9.heap.size := by rw [← hW10]; simp
              have HB10 := hide (show Below wr.heap.size wr W10 by rw [← hW10]; exact (HB8.out.trans (HB9.out.mono HB8.out.size)).setCell (by simp only; omega) _)
              have RO10 := hide (show W10.rowIs ob 46 9 (lrow [.bool (hasB (f a1) 1), .bool (numB (f a1) 2 == f 0 / 8 % 2), .bool (hasB (f a1) 4), .bool (hasB (f a1) 8), .int .i64 (f a1 / 256 % 256), .int .u64 (f a1 / 4294967296), .int .u64 (f (a1 + 1)), .int .u64 (f (a1 + 2)), .slice sg s sc]) by
                rw [← hW10]
                exact row_set (row_on RO8.out HB9.out) rfl 8 _)
              have SL10 := hide (show W10.ownsRow wr.heap.size 24 1 (.slice sg s sc) s (wcs s (fun i => f (a1 + 3 + i))) by
                rw [← hW10]
                exact owns_low (owns_set HO9.out (by simp only; omega) _) (show wr.heap.size ≤ W8.heap.size by omega))
              have RV10 := hide (row_on RVr.out HB10.out)
              have OR10 := hide (owns_on ORr.out HB10.out)
              have OI10 := hide (show ∀ j, j < m → ∃ ai ci, (∀ q, q < 9 → os[j * 9 + q]? = some ((obAt ⟨o, s, h, r, k⟩ f j).cell (.slice ai s ci) q)) ∧ W10.ownsRow X2.heap.size 24 1 (.slice ai s ci) s (wcs s (obAt ⟨o, s, h, r, k⟩ f j).sl) from fun j hj => by obtain ⟨ai, ci, h1, h2⟩ := OIr.out j hj; exact ⟨ai, ci, h1, owns_on h2 HB10.out⟩)
              have BX10 := hide (BXr.out.below HB10.out (Nat.le_refl _) (by omega))
              try simp only [hW10]
              clear hW10 e8 fz8 HO9 RO8 RVr ORr OIr BXr HBr HB4 HB5 HB8 HB9 HB10 HW5 HW8 CV UN OO hsl1 HP1 z1
              have hvx : vb < W10.heap.size := by omega
              have hox : ob < W10.heap.size := by omega
              have hsr : X2.heap.size ≤ W10.heap.size := by omega
              have hwr : wr.heap.size ≤ W10.heap.size := by omega
              clear hsz hs9
              have e6 := RV10.out.cell (i := 6) (by decide)
              simp only [lrow, vcs, pc] at e6
              have u0 := RO10.out.cell (i := 0) (by decide)
              have u1 := RO10.out.cell (i := 1) (by decide)
              have u2 := RO10.out.cell (i := 2) (by decide)
              have u3 := RO10.out.cell (i := 3) (by decide)
              have u4 := RO10.out.cell (i := 4) (by decide)
              have u5 := RO10.out.cell (i := 5) (by decide)
              have u6 := RO10.out.cell (i := 6) (by decide)
              have u7 := RO10.out.cell (i := 7) (by decide)
              have u8 := RO10.out.cell (i := 8) (by decide)
              simp only [lrow] at u0 u1 u2 u3 u4 u5 u6 u7 u8
              have AP := hide (show ∀ v2 w2, w2.ownsRow X2.heap.size 46 9 v2 (m + 1) (os ++ [.bool (hasB (f a1) 1), .bool (numB (f a1) 2 == f 0 / 8 % 2), .bool (hasB (f a1) 4), .bool (hasB (f a1) 8), .int .i64 (f a1 / 256 % 256), .int .u64 (f a1 / 4294967296), .int .u64 (f (a1 + 1)), .int .u64 (f (a1 + 2)), .slice sg s sc]) → (W10.alloc (.cells #[.bool (hasB (f a1) 1), .bool (numB (f a1) 2 == f 0 / 8 % 2), .bool (hasB (f a1) 4), .bool (hasB (f a1) 8), .int .i64 (f a1 / 256 % 256), .int .u64 (f a1 / 4294967296), .int .u64 (f (a1 + 1)), .int .u64 (f (a1 + 2)), .slice sg s sc] 46)).grownBy w2 (Value.slice oa m cb).ownBlock → w2.rowIs vb 31 14 (lrow (vcs (pc ⟨o, s, h, r, k⟩ f h h k m [] [] [] 0) ⟨ga, ca, ra, cr, wa, cw, oa, cb, none, 0, none, 0, none, 0⟩)) ∧ Bx X2.heap.size vb X2 w2 ∧ (∀ g c n xs, W10.ownsRow X2.heap.size 24 1 (.slice g n c) n xs → w2.ownsRow X2.heap.size 24 1 (.slice g n c) n xs) from fun v2 w2 hown hgr => by
                have hba : Below W10.heap.size W10 (W10.alloc (.cells #[.bool (hasB (f a1) 1), .bool (numB (f a1) 2 == f 0 / 8 % 2), .bool (hasB (f a1) 4), .bool (hasB (f a1) 8), .int .i64 (f a1 / 256 % 256), .int .u64 (f a1 / 4294967296), .int .u64 (f (a1 + 1)), .int .u64 (f (a1 + 2)), .slice sg s sc] 46)) := (Below.refl _ _).alloc (Nat.le_refl _) _
                refine ⟨(row_on RV10.out hba).of_block (hgr.block vb (by simp; omega) (fun e => by have := (OR10.out.lt vb e.symm).1; omega)), (BX10.out.below hba (Nat.le_refl _) (by omega)).grown (owns_on OR10.out hba) hgr (Nat.le_refl _) (by omega), fun g c n xs hr => ?_⟩
                exact (owns_on hr hba).kept hgr (owns_ne (owns_on hr hba) (owns_on OR10.out hba) (by decide)))
              go_wp2_with (at_builtin; refine wpList_append_own_at _ rfl (.tmp 160) (.tmp 162) 27 rfl X2.heap.size 46 iO zO 9 64 Tryz.underlying27 hiO hzO hsO hyO hcO (by decide) (.slice oa m cb) m os rfl (OR10.out.alloc _) ⟨W10.heap.size, 0, none⟩ 1 1 [.bool (hasB (f a1) 1), .bool (numB (f a1) 2 == f 0 / 8 % 2), .bool (hasB (f a1) 4), .bool (hasB (f a1) 8), .int .i64 (f a1 / 256 % 256), .int .u64 (f a1 / 4294967296), .int .u64 (f (a1 + 1)), .int .u64 (f (a1 + 2)), .slice sg s sc] rfl rfl (cells_new W10 [.bool (hasB (f a1) 1), .bool (numB (f a1) 2 == f 0 / 8 % 2), .bool (hasB (f a1) 4), .bool (hasB (f a1) 8), .int .i64 (f a1 / 256 % 256), .int .u64 (f a1 / 4294967296), .int .u64 (f (a1 + 1)), .int .u64 (f (a1 + 2)), .slice sg s sc] 46) (by simp [Value.oneCell']) (by unfold maxLen; omega) (by omega) (by simp; omega) ?_; intro v2 w2 hown hgr _ _; have HOW2 := hide hown; obtain ⟨ha1, ha2, ha3⟩ := AP.out v2 w2 hown hgr; have RV2w := hide ha1; have BX2w := hide ha2; have KP := hide ha3; obtain ⟨oa2, cb2, hv2⟩ := own_slice hown; subst hv2; clear hown hgr ha1 ha2 ha3; have e6 := RV2w.out.cell (i := 6) (by decide); have fz6 := RV2w.out.frozen 6)
              go_roundw
              case rel =>
                refine ⟨m + 1, oa2, cb2, by omega, by go_num, row_set RV2w.out rfl 6 _, ⟨os ++ [.bool (hasB (f a1) 1), .bool (numB (f a1) 2 == f 0 / 8 % 2), .bool (hasB (f a1) 4), .bool (hasB (f a1) 8), .int .i64 (f a1 / 256 % 256), .int .u64 (f a1 / 4294967296), .int .u64 (f (a1 + 1)), .int .u64 (f (a1 + 2)), .slice sg s sc], owns_set HOW2.out (by simp only; omega) _, fun j hj => ?_⟩, BX2w.out.set _ _⟩
                have hol : os.length = m * 9 := OR10.out.1
                by_cases hjm : j < m
                · obtain ⟨aj, cj, h1, h2⟩ := OI10.out j hjm
                  exact ⟨aj, cj, fun q hq => by rw [List.getElem?_append_left (by omega)]; exact h1 q hq, owns_set (KP.out _ _ _ _ h2) (by simp only; omega) _⟩
                · have hjm2 : j = m := by omega
                  subst hjm2
                  refine ⟨sg, sc, fun q hq => ?_, owns_set (KP.out _ _ _ _ ?_) (by simp only; omega) _⟩
                  · rw [List.getElem?_append_right (by omega), hol, show j * 9 + q - j * 9 = q by omega]
                    have h7 := Ob.cells_get (obAt ⟨o, s, h, r, k⟩ f j) (.slice sg s sc) hq
                    rw [← h7]
                    unfold obAt Ob.cells
                    simp only [HA1.out]
                    rfl
                  · have h6 := owns_low SL10.out szr
                    unfold obAt
                    simp only [HA1.out]
                    simpa only [Nat.add_assoc] using h6
              case measure => simp [intOf]; omega


            · have hlt' : ¬ (m : Int) + 1 ≤ (o : Int) := by omega
              have hmo : o = m := by omega
              subst hmo
              obtain ⟨X3, hX3⟩ : ∃ W : World, W = wr := ⟨_, rfl⟩
              subst hX3
              have O3 := hide (show Owns X3 (vb + 1) (pc ⟨o, s, h, r, k⟩ f h h k o [] [] [] 0) ⟨ga, ca, ra, cr, wa, cw, oa, cb, none, 0, none, 0, none, 0⟩ by
                have h1 := O2.out.bx BXr.out (by omega)
                obtain ⟨os, h2, h3⟩ := OBr.out
                exact ⟨h1.ac, h1.rt, h1.wk, ⟨os, owns_low h2 (by omega), fun j hj => by obtain ⟨ai, ci, h4, h5⟩ := h3 j hj; exact ⟨ai, ci, h4, owns_low h5 (by omega)⟩⟩, h1.fr, h1.gr, h1.qu⟩)
              have RA3 := hide (BXr.out.row RA2.out (by omega) (by omega))
              have RV3 := RVr
              have HB3 := HBr
              have sz3 : vb + 1 ≤ X3.heap.size := by omega
              have HLW := hide (show ∀ j, j < o → (0 ≤ (obAt ⟨o, s, h, r, k⟩ f j).lk ∧ (obAt ⟨o, s, h, r, k⟩ f j).lk < 18446744073709551616) ∧ 0 ≤ (obAt ⟨o, s, h, r, k⟩ f j).nx ∧ (obAt ⟨o, s, h, r, k⟩ f j).nx < 18446744073709551616 from fun j hj => cv_links H (by rw [hz]; exact HF.out) j hj)
              have hbv : ¬ b = vb := by omega
              have hbv2 : ¬ vb = b := by omega
              clear O2 RA2 RV2 HB2 BXr RVr HBr OBr szr sz2 x0 hm
              obtain ⟨R1, hR1⟩ : ∃ R, lst ⟨o, s, h, r, k⟩ f 1 1 = R := ⟨_, rfl⟩
              have AL1 := hide (show ∀ w1 : World, Below X3.heap.size X3 w1 → Calls Tryz.prog 41 #[.slice oa o cb, .int .u64 (f 1), .bool false] w1 fun e w' => (∃ fa cf, e = .returned (.tuple #[.slice fa R1.1.length cf, .int .i64 R1.2]) ∧ Hid (w'.ownsRow w1.heap.size 3 1 (.slice fa R1.1.length cf) R1.1.length (ncs R1.1))) ∧ Below w1.heap.size w1 w' from fun w1 hb => by
                have h1 := HF.out 1 (by omega)
                have h2 := along_false (cb := cb) (hd := f 1) ((O3.out.shows.links).on hb) (show o ≤ 70000 by omega) (fun j hj => (HLW.out j hj).1) h1.1 h1.2
                rw [← hR1]
                exact h2)
              have HR1 := hide hR1
              clear hR1
              have e6 := RV3.out.cell (i := 6) (by decide)
              simp only [lrow, vcs, pc] at e6
              have c1 := HS.out X3 (K.out X3 HB3.out).1 1 (by omega)
              have i1 : (1 : Int) < (z : Int) := by omega
              have hsx : vb < X3.heap.size := by omega
              have D1 : Below X3.heap.size X3 X3.drew := (Below.refl _ _).drew
              go_upto_region 30 with (fail)
              go_region_held (fun w' => w'.cell? ⟨vb, 6, none⟩ = some (.slice oa o cb) ∧ w'.cell? ⟨b, off + 1, none⟩ = some (.int .u64 (f 1))) (first | exact KS _ | go_keep) (first | (go_at_call 41; refine (AL1.out _ D1).mono ?_; rintro e v1 ⟨⟨fa1, cf1, rfl, HL1⟩, hbb⟩; have HV1 := hide (D1.trans (hbb.mono D1.size)); clear hbb; have k6 := (row_on RV3.out HV1.out).cell (i := 6) (by decide); have k7 := (row_on RV3.out HV1.out).cell (i := 7) (by decide); simp only [lrow, vcs, pc] at k6 k7; have kz := (row_on RV3.out HV1.out).frozen 7; have kc := HS.out v1 ((K.out X3 HB3.out).1.trans (HV1.out.mono (K.out X3 HB3.out).1.size)) 1 (by omega); have KS : ∀ u : Value, (v1.setCell ⟨vb, 7, none⟩ u).cell? ⟨vb, 6, none⟩ = some (.slice oa o cb) ∧ (v1.setCell ⟨vb, 7, none⟩ u).cell? ⟨b, off + 1, none⟩ = some (.int .u64 (f 1)) := fun u => ⟨(World.cell?_setCell_other _ _ _ _ (fun e => by injection e with e1 e2 _; omega)).trans k6, (World.cell?_setCell_other _ _ _ _ (fun e => by injection e with e1 e2 _; omega)).trans kc⟩))
              obtain ⟨X4, hX4⟩ : ∃ W, v1.setCell ⟨vb, 7, none⟩ (.slice fa1 R1.1.length cf1) = W := ⟨_, rfl⟩
              have hvs : X3.heap.size ≤ v1.heap.size := HV1.out.size
              have HB4 := hide (show Below W0.heap.size W0 X4 by rw [← hX4]; exact (HB3.out.trans (HV1.out.mono HB3.out.size)).setCell (by simp only; omega) _)
              have RV4 := hide (show X4.rowIs vb 31 14 (lrow (vcs (pc ⟨o, s, h, r, k⟩ f h h k o R1.1 [] [] 0) ⟨ga, ca, ra, cr, wa, cw, oa, cb, fa1, cf1, none, 0, none, 0⟩)) by rw [← hX4]; exact row_set (row_on RV3.out HV1.out) rfl 7 _)
              have RA4 := hide (show X4.rowIs W0.heap.size 31 14 (lrow [.int .i64 0, .int .i64 0, .int .u64 0, .slice none 0 0, .slice none 0 0, .slice none 0 0, .slice none 0 0, .slice none 0 0, .slice none 0 0, .slice none 0 0, .int .u64 0, .int .u64 0, .int .u64 0, .int .u64 0]) by rw [← hX4]; exact (row_on RA3.out HV1.out).of_block (Below.heap_setCell _ _ _ _ (by simp only; omega)))
              have sz4 : vb + 1 ≤ X4.heap.size := by rw [← hX4]; simp; omega
              have O4 := hide (show Owns X4 (vb + 1) (pc ⟨o, s, h, r, k⟩ f h h k o R1.1 [] [] 0) ⟨ga, ca, ra, cr, wa, cw, oa, cb, fa1, cf1, none, 0, none, 0⟩ by
                have h1 := (O3.out.below HV1.out).set (ad := ⟨vb, 7, none⟩) (by simp only; omega) (.slice fa1 R1.1.length cf1)
                have h2 := owns_low (owns_set (base := X3.heap.size) (a := ⟨vb, 7, none⟩) HL1.out (by simp only; omega) (.slice fa1 R1.1.length cf1)) (show vb + 1 ≤ X3.heap.size by omega)
                rw [hX4] at h1 h2
                exact ⟨h1.ac, h1.rt, h1.wk, h1.ob, h2, h1.gr, h1.qu⟩)
              try simp only [hX4]
              clear hX4 AL1 e6 c1 i1 hsx D1 k6 k7 kz kc KS HL1 HV1 hvs O3 RV3 RA3 HB3 sz3
              obtain ⟨R2, hR2⟩ : ∃ R, lst ⟨o, s, h, r, k⟩ f 2 1 = R := ⟨_, rfl⟩
              have AL2 := hide (show ∀ w1 : World, Below X4.heap.size X4 w1 → Calls Tryz.prog 41 #[.slice oa o cb, .int .u64 (f 2), .bool false] w1 fun e w' => (∃ fa cf, e = .returned (.tuple #[.slice fa R2.1.length cf, .int .i64 R2.2]) ∧ Hid (w'.ownsRow w1.heap.size 3 1 (.slice fa R2.1.length cf) R2.1.length (ncs R2.1))) ∧ Below w1.heap.size w1 w' from fun w1 hb => by
                have h1 := HF.out 2 (by omega)
                have h2 := along_false (cb := cb) (hd := f 2) ((O4.out.shows.links).on hb) (show o ≤ 70000 by omega) (fun j hj => (HLW.out j hj).1) h1.1 h1.2
                rw [← hR2]
                exact h2)
              have HR2 := hide hR2
              clear hR2
              have e6 := RV4.out.cell (i := 6) (by decide)
              simp only [lrow, vcs, pc] at e6
              have c1 := HS.out X4 (K.out X4 HB4.out).1 2 (by omega)
              have i1 : (2 : Int) < (z : Int) := by omega
              have hsx : vb < X4.heap.size := by omega
              have D2 : Below X4.heap.size X4 X4.drew := (Below.refl _ _).drew
              go_upto_region 31 with (fail)
              go_region_held (fun w' => w'.cell? ⟨vb, 6, none⟩ = some (.slice oa o cb) ∧ w'.cell? ⟨b, off + 2, none⟩ = some (.int .u64 (f 2))) (first | exact KS _ | go_keep) (first | (go_at_call 41; refine (AL2.out _ D2).mono ?_; rintro e v2 ⟨⟨fa2, cf2, rfl, HL2⟩, hbb⟩; have HV2 := hide (D2.trans (hbb.mono D2.size)); clear hbb; have k6 := (row_on RV4.out HV2.out).cell (i := 6) (by decide); have k7 := (row_on RV4.out HV2.out).cell (i := 8) (by decide); simp only [lrow, vcs, pc] at k6 k7; have kz := (row_on RV4.out HV2.out).frozen 8; have kc := HS.out v2 ((K.out X4 HB4.out).1.trans (HV2.out.mono (K.out X4 HB4.out).1.size)) 2 (by omega); have KS : ∀ u : Value, (v2.setCell ⟨vb, 8, none⟩ u).cell? ⟨vb, 6, none⟩ = some (.slice oa o cb) ∧ (v2.setCell ⟨vb, 8, none⟩ u).cell? ⟨b, off + 2, none⟩ = some (.int .u64 (f 2)) := fun u => ⟨(World.cell?_setCell_other _ _ _ _ (fun e => by injection e with e1 e2 _; omega)).trans k6, (World.cell?_setCell_other _ _ _ _ (fun e => by injection e with e1 e2 _; omega)).trans kc⟩))
              obtain ⟨X5, hX5⟩ : ∃ W, v2.setCell ⟨vb, 8, none⟩ (.slice fa2 R2.1.length cf2) = W := ⟨_, rfl⟩
              have hvs : X4.heap.size ≤ v2.heap.size := HV2.out.size
              have HB5 := hide (show Below W0.heap.size W0 X5 by rw [← hX5]; exact (HB4.out.trans (HV2.out.mono HB4.out.size)).setCell (by simp only; omega) _)
              have RV5 := hide (show X5.rowIs vb 31 14 (lrow (vcs (pc ⟨o, s, h, r, k⟩ f h h k o R1.1 R2.1 [] 0) ⟨ga, ca, ra, cr, wa, cw, oa, cb, fa1, cf1, fa2, cf2, none, 0⟩)) by rw [← hX5]; exact row_set (row_on RV4.out HV2.out) rfl 8 _)
              have RA5 := hide (show X5.rowIs W0.heap.size 31 14 (lrow [.int .i64 0, .int .i64 0, .int .u64 0, .slice none 0 0, .slice none 0 0, .slice none 0 0, .slice none 0 0, .slice none 0 0, .slice none 0 0, .slice none 0 0, .int .u64 0, .int .u64 0, .int .u64 0, .int .u64 0]) by rw [← hX5]; exact (row_on RA4.out HV2.out).of_block (Below.heap_setCell _ _ _ _ (by simp only; omega)))
              have sz5 : vb + 1 ≤ X5.heap.size := by rw [← hX5]; simp; omega
              have O5 := hide (show Owns X5 (vb + 1) (pc ⟨o, s, h, r, k⟩ f h h k o R1.1 R2.1 [] 0) ⟨ga, ca, ra, cr, wa, cw, oa, cb, fa1, cf1, fa2, cf2, none, 0⟩ by
                have h1 := (O4.out.below HV2.out).set (ad := ⟨vb, 8, none⟩) (by simp only; omega) (.slice fa2 R2.1.length cf2)
                have h2 := owns_low (owns_set (base := X4.heap.size) (a := ⟨vb, 8, none⟩) HL2.out (by simp only; omega) (.slice fa2 R2.1.length cf2)) (show vb + 1 ≤ X4.heap.size by omega)
                rw [hX5] at h1 h2
                exact ⟨h1.ac, h1.rt, h1.wk, h1.ob, h1.fr, h2, h1.qu⟩)
              try simp only [hX5]
              clear hX5 AL2 e6 c1 i1 hsx D2 k6 k7 kz kc KS HL2 HV2 hvs O4 RV4 RA4 HB4 sz4
              obtain ⟨R3, hR3⟩ : ∃ R, lst ⟨o, s, h, r, k⟩ f 3 2 = R := ⟨_, rfl⟩
              have AL3 := hide (show ∀ w1 : World, Below X5.heap.size X5 w1 → Calls Tryz.prog 41 #[.slice oa o cb, .int .u64 (f 3), .bool true] w1 fun e w' => (∃ fa cf, e = .returned (.tuple #[.slice fa R3.1.length cf, .int .i64 R3.2]) ∧ Hid (w'.ownsRow w1.heap.size 3 1 (.slice fa R3.1.length cf) R3.1.length (ncs R3.1))) ∧ Below w1.heap.size w1 w' from fun w1 hb => by
                have h1 := HF.out 3 (by omega)
                have h2 := along_true (cb := cb) (hd := f 3) ((O5.out.shows.links).on hb) (show o ≤ 70000 by omega) (fun j hj => (HLW.out j hj).2) h1.1 h1.2
                rw [← hR3]
                exact h2)
              have HR3 := hide hR3
              clear hR3
              have e6 := RV5.out.cell (i := 6) (by decide)
              simp only [lrow, vcs, pc] at e6
              have c1 := HS.out X5 (K.out X5 HB5.out).1 3 (by omega)
              have i1 : (3 : Int) < (z : Int) := by omega
              have hsx : vb < X5.heap.size := by omega
              have D3 : Below X5.heap.size X5 X5.drew := (Below.refl _ _).drew
              go_upto_region 32 with (fail)
              go_region_held (fun w' => w'.cell? ⟨vb, 6, none⟩ = some (.slice oa o cb) ∧ w'.cell? ⟨b, off + 3, none⟩ = some (.int .u64 (f 3))) (first | exact KS _ | go_keep) (first | (go_at_call 41; refine (AL3.out _ D3).mono ?_; rintro e v3 ⟨⟨fa3, cf3, rfl, HL3⟩, hbb⟩; have HV3 := hide (D3.trans (hbb.mono D3.size)); clear hbb; have k6 := (row_on RV5.out HV3.out).cell (i := 6) (by decide); have k7 := (row_on RV5.out HV3.out).cell (i := 9) (by decide); simp only [lrow, vcs, pc] at k6 k7; have kz := (row_on RV5.out HV3.out).frozen 9; have kc := HS.out v3 ((K.out X5 HB5.out).1.trans (HV3.out.mono (K.out X5 HB5.out).1.size)) 3 (by omega); have KS : ∀ u : Value, (v3.setCell ⟨vb, 9, none⟩ u).cell? ⟨vb, 6, none⟩ = some (.slice oa o cb) ∧ (v3.setCell ⟨vb, 9, none⟩ u).cell? ⟨b, off + 3, none⟩ = some (.int .u64 (f 3)) := fun u => ⟨(World.cell?_setCell_other _ _ _ _ (fun e => by injection e with e1 e2 _; omega)).trans k6, (World.cell?_setCell_other _ _ _ _ (fun e => by injection e with e1 e2 _; omega)).trans kc⟩))
              obtain ⟨X6, hX6⟩ : ∃ W, v3.setCell ⟨vb, 9, none⟩ (.slice fa3 R3.1.length cf3) = W := ⟨_, rfl⟩
              have hvs : X5.heap.size ≤ v3.heap.size := HV3.out.size
              have HB6 := hide (show Below W0.heap.size W0 X6 by rw [← hX6]; exact (HB5.out.trans (HV3.out.mono HB5.out.size)).setCell (by simp only; omega) _)
              have RV6 := hide (show X6.rowIs vb 31 14 (lrow (vcs (pc ⟨o, s, h, r, k⟩ f h h k o R1.1 R2.1 R3.1 0) ⟨ga, ca, ra, cr, wa, cw, oa, cb, fa1, cf1, fa2, cf2, fa3, cf3⟩)) by rw [← hX6]; exact row_set (row_on RV5.out HV3.out) rfl 9 _)
              have RA6 := hide (show X6.rowIs W0.heap.size 31 14 (lrow [.int .i64 0, .int .i64 0, .int .u64 0, .slice none 0 0, .slice none 0 0, .slice none 0 0, .slice none 0 0, .slice none 0 0, .slice none 0 0, .slice none 0 0, .int .u64 0, .int .u64 0, .int .u64 0, .int .u64 0]) by rw [← hX6]; exact (row_on RA5.out HV3.out).of_block (Below.heap_setCell _ _ _ _ (by simp only; omega)))
              have sz6 : vb + 1 ≤ X6.heap.size := by rw [← hX6]; simp; omega
              have O6 := hide (show Owns X6 (vb + 1) (pc ⟨o, s, h, r, k⟩ f h h k o R1.1 R2.1 R3.1 0) ⟨ga, ca, ra, cr, wa, cw, oa, cb, fa1, cf1, fa2, cf2, fa3, cf3⟩ by
                have h1 := (O5.out.below HV3.out).set (ad := ⟨vb, 9, none⟩) (by simp only; omega) (.slice fa3 R3.1.length cf3)
                have h2 := owns_low (owns_set (base := X5.heap.size) (a := ⟨vb, 9, none⟩) HL3.out (by simp only; omega) (.slice fa3 R3.1.length cf3)) (show vb + 1 ≤ X5.heap.size by omega)
                rw [hX6] at h1 h2
                exact ⟨h1.ac, h1.rt, h1.wk, h1.ob, h1.fr, h1.gr, h2⟩)
              try simp only [hX6]
              clear hX6 AL3 e6 c1 i1 hsx D3 k6 k7 kz kc KS HL3 HV3 hvs O5 RV5 RA5 HB5 sz5
              go_wp2_with fail
              go_loopw [23] (fun i wr => ∃ (q : Nat), q ≤ 4 ∧ i = .int .i64 (q : Int) ∧ Hid (wr.rowIs vb 31 14 (lrow (vcs (pc ⟨o, s, h, r, k⟩ f h h k o R1.1 R2.1 R3.1 q) ⟨ga, ca, ra, cr, wa, cw, oa, cb, fa1, cf1, fa2, cf2, fa3, cf3⟩))) ∧ Hid (Bx X6.heap.size vb X6 wr)) (fun i _ => 4 - (intOf i).toNat)
              case atStart => exact ⟨0, by omega, rfl, RV6.out, Bx.refl _ _ _⟩
              case round =>
                obtain ⟨q, hq, rfl, RVr, BXr⟩ := hrel
                have HBr := hide (HB6.out.trans (BXr.out.low.mono (by omega)))
                by_cases hlt : q < 4
                · have hlt' : (q : Int) < 4 := by omega
                  have cw4 := HS.out wr (K.out wr HBr.out).1 (4 + q) (by omega)
                  obtain ⟨uq, huq⟩ : ∃ u, wr.cell? ⟨vb, 10 + q, none⟩ = some u := ⟨_, RVr.out.cell (by omega)⟩
                  have hfq := RVr.out.frozen (10 + q)
                  have t4 : ((4 : Int) + (q : Int)).toNat = 4 + q := by omega
                  have i4 : (4 : Int) + (q : Int) < (z : Int) := by omega
                  have hl4 := hide (show (vcs (pc ⟨o, s, h, r, k⟩ f h h k o R1.1 R2.1 R3.1 q) ⟨ga, ca, ra, cr, wa, cw, oa, cb, fa1, cf1, fa2, cf2, fa3, cf3⟩).set (10 + q) (.int .u64 (f (4 + q))) = vcs (pc ⟨o, s, h, r, k⟩ f h h k o R1.1 R2.1 R3.1 (q + 1)) ⟨ga, ca, ra, cr, wa, cw, oa, cb, fa1, cf1, fa2, cf2, fa3, cf3⟩ by
                    match q, hlt with
                    | 0, _ => rfl
                    | 1, _ => rfl
                    | 2, _ => rfl
                    | 3, _ => rfl)
                  go_wp2_with fail
                  go_roundw
                  case rel =>
                    refine ⟨q + 1, by omega, by go_num, ?_, BXr.out.set _ _⟩
                    have h5 := row_set RVr.out rfl (10 + q) (.int .u64 (f (4 + q)))
                    rw [hl4.out] at h5
                    exact h5
                  case measure => simp [intOf]; omega
                · have hq4 : q = 4 := by omega
                  subst hq4
                  have hlt' : ¬ ((4 : Nat) : Int) < 4 := by omega
                  have RAr := hide (BXr.out.row RA6.out (by omega) (by omega))
                  have OF := hide (O6.out.bx BXr.out (by omega))
                  have e0 : wr.cell? ⟨vb, 0, none⟩ = some (.int .i64 (f 0 % 8)) := RVr.out.cell (i := 0) (by decide)
                  have e1 : wr.cell? ⟨vb, 1, none⟩ = some (.int .i64 (f 0 / 8 % 2)) := RVr.out.cell (i := 1) (by decide)
                  have e2 : wr.cell? ⟨vb, 2, none⟩ = some (.int .u64 (f 0 / 256)) := RVr.out.cell (i := 2) (by decide)
                  have e3 : wr.cell? ⟨vb, 3, none⟩ = some (.slice ga h ca) := RVr.out.cell (i := 3) (by decide)
                  have e4 : wr.cell? ⟨vb, 4, none⟩ = some (.slice ra h cr) := RVr.out.cell (i := 4) (by decide)
                  have e5 : wr.cell? ⟨vb, 5, none⟩ = some (.slice wa k cw) := RVr.out.cell (i := 5) (by decide)
                  have e6 : wr.cell? ⟨vb, 6, none⟩ = some (.slice oa o cb) := RVr.out.cell (i := 6) (by decide)
                  have e7 : wr.cell? ⟨vb, 7, none⟩ = some (.slice fa1 R1.1.length cf1) := RVr.out.cell (i := 7) (by decide)
                  have e8 : wr.cell? ⟨vb, 8, none⟩ = some (.slice fa2 R2.1.length cf2) := RVr.out.cell (i := 8) (by decide)
                  have e9 : wr.cell? ⟨vb, 9, none⟩ = some (.slice fa3 R3.1.length cf3) := RVr.out.cell (i := 9) (by decide)
                  have e10 : wr.cell? ⟨vb, 10, none⟩ = some (.int .u64 (f 4)) := RVr.out.cell (i := 10) (by decide)
                  have e11 : wr.cell? ⟨vb, 11, none⟩ = some (.int .u64 (f 5)) := RVr.out.cell (i := 11) (by decide)
                  have e12 : wr.cell? ⟨vb, 12, none⟩ = some (.int .u64 (f 6)) := RVr.out.cell (i := 12) (by decide)
                  have e13 : wr.cell? ⟨vb, 13, none⟩ = some (.int .u64 (f 7)) := RVr.out.cell (i := 13) (by decide)
                  have d0 := RAr.out.cell (i := 0) (by decide)
                  have d1 := RAr.out.cell (i := 1) (by decide)
                  have d2 := RAr.out.cell (i := 2) (by decide)
                  have d3 := RAr.out.cell (i := 3) (by decide)
                  have d4 := RAr.out.cell (i := 4) (by decide)
                  have d5 := RAr.out.cell (i := 5) (by decide)
                  have d6 := RAr.out.cell (i := 6) (by decide)
                  have d7 := RAr.out.cell (i := 7) (by decide)
                  have d8 := RAr.out.cell (i := 8) (by decide)
                  have d9 := RAr.out.cell (i := 9) (by decide)
                  have d10 := RAr.out.cell (i := 10) (by decide)
                  have d11 := RAr.out.cell (i := 11) (by decide)
                  have d12 := RAr.out.cell (i := 12) (by decide)
                  have d13 := RAr.out.cell (i := 13) (by decide)
                  have fd : ∀ i, wr.frozen? ⟨W0.heap.size, i, none⟩ = false := fun i => RAr.out.frozen i
                  simp only [lrow] at d0 d1 d2 d3 d4 d5 d6 d7 d8 d9 d10 d11 d12 d13
                  have hbf := hide ((K.out wr HBr.out).1)
                  go_wp2_with fail
                  refine bodyPost_ret (v := .tuple #[.agg #[.int .i64 (f 0 % 8), .int .i64 (f 0 / 8 % 2), .int .u64 (f 0 / 256), .slice ga h ca, .slice ra h cr, .slice wa k cw, .slice oa o cb, .slice fa1 R1.1.length cf1, .slice fa2 R2.1.length cf2, .slice fa3 R3.1.length cf3, .int .u64 (f 4), .int .u64 (f 5), .int .u64 (f 6), .int .u64 (f 7)], .int .i64 0]) (by simp [results, Tryz.results19, go_sem, *]) rfl ⟨⟨⟨ga, ca, ra, cr, wa, cw, oa, cb, fa1, cf1, fa2, cf2, fa3, cf3⟩, ?_, ?_⟩, ?_⟩
                  · unfold cv vl
                    simp only [HR1.out, HR2.out, HR3.out]
                  · refine Owns.low (base := vb + 1) ?_ (by omega)
                    have hcv : cv ⟨o, s, h, r, k⟩ f = ⟨f 0 % 8, f 0 / 8 % 2, f 0 / 256, h, fun i => f (8 + i), h, fun _ => r, fun j q => f (bR ⟨o, s, h, r, k⟩ + j * r + q), k, fun b => f (bK ⟨o, s, h, r, k⟩ + b), o, obAt ⟨o, s, h, r, k⟩ f, R1.1, R2.1, R3.1, fun i => f (4 + i)⟩ := by
                      unfold cv
                      simp only [HR1.out, HR2.out, HR3.out]
                    rw [hcv]
                    have OG : Owns wr (vb + 1) ⟨f 0 % 8, f 0 / 8 % 2, f 0 / 256, h, fun i => f (8 + i), h, fun _ => r, fun j q => f (bR ⟨o, s, h, r, k⟩ + j * r + q), k, fun b => f (bK ⟨o, s, h, r, k⟩ + b), o, obAt ⟨o, s, h, r, k⟩ f, R1.1, R2.1, R3.1, fun i => f (4 + i)⟩ ⟨ga, ca, ra, cr, wa, cw, oa, cb, fa1, cf1, fa2, cf2, fa3, cf3⟩ := ⟨OF.out.ac, OF.out.rt, OF.out.wk, OF.out.ob, OF.out.fr, OF.out.gr, OF.out.qu⟩
                    repeat' refine Owns.set ?_ (by simp only; omega) _
                    exact OG
                  · repeat' refine Below.setCell ?_ (by simp only; omega) _
                    exact hbf.out



end Vw
end Go.Proofs.YtecjegjnnahddaaGreat
