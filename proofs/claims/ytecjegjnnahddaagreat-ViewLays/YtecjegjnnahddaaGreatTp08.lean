/-
  Lemmas: VwD, LtH, LtC, VwO, VwH, VwI.
-/
import Derived.Test.YtecjegjnnahddaaGreatTp07
import Derived.Maps.AppendAt
/-
  View: the package's three lists, an object as it is seen, a memory of a shape and words.
-/
namespace Go.Proofs.YtecjegjnnahddaaGreat
open Go.RowKit
set_option linter.unusedVariables false
set_option linter.unusedSimpArgs false
set_option linter.unnecessarySimpa false
set_option maxRecDepth 20000
namespace Vw
open Shape

set_option maxHeartbeats 1000000 in
theorem free_ok {o s h r k b off z cap : Nat} {s5 : Int} {B : Nat} {f : Nat → Int} (H : (⟨o, s, h, r, k⟩ : Sh).Ok) (hz : size ⟨o, s, h, r, k⟩ = z) (hc : z ≤ cap) {w : World} (hS : Sees w B (some ⟨b, off, none⟩) z f) (hB : B ≤ w.heap.size) (hf : ∀ i, i < z → 0 ≤ f i ∧ f i < 18446744073709551616) :
    Calls Tryz.prog 62 #[.agg #[.int .i64 (o : Int), .int .i64 (s : Int), .int .i64 (h : Int), .int .i64 (r : Int), .int .i64 (k : Int), .int .i64 s5, .slice (some ⟨b, off, none⟩) z cap]] w fun e w' => (∃ fa cf, e = .returned (.tuple #[.slice fa (lst ⟨o, s, h, r, k⟩ f 1 1).1.length cf, .int .i64 (lst ⟨o, s, h, r, k⟩ f 1 1).2]) ∧ Hid (w'.ownsRow w.heap.size 3 1 (.slice fa (lst ⟨o, s, h, r, k⟩ f 1 1).1.length cf) (lst ⟨o, s, h, r, k⟩ f 1 1).1.length (ncs (lst ⟨o, s, h, r, k⟩ f 1 1).1))) ∧ Below w.heap.size w w' := by
  obtain ⟨W0, hW0, B0, K⟩ := mbox w o s h r k b off z cap s5
  have HB := hide B0
  have LO := hide (list_ok (b := b) (off := off) (s5 := s5) (at' := 1) (over := 1) H hz hc (by decide) (by decide) (w := W0) (hS.below B0 hB) (by have := B0.size; omega) hf)
  simp only [show ((1 : Nat) : Int) = 1 from rfl, show ((2 : Nat) : Int) = 2 from rfl, show ((3 : Nat) : Int) = 3 from rfl] at LO
  obtain ⟨R, hR⟩ : ∃ R, lst ⟨o, s, h, r, k⟩ f 1 1 = R := ⟨_, rfl⟩
  rw [hR] at LO ⊢
  clear hR H hz hS hB hf
  obtain ⟨-, l0, x0, x1, x2, x3, x4, x5, x6⟩ := K.out W0 (Below.refl _ _)
  clear B0
  go_enter Tryz.func62, Tryz.ntmps62
  go_wp2_with (go_at_call 88; refine LO.out.mono ?_; rintro e w1 ⟨⟨fa, cf, rfl, HO⟩, hb1⟩; have HB1 := hide hb1; clear hb1)
  go_ret2
  exact ⟨⟨fa, cf, rfl, owns_low HO.out HB.out.size⟩, (K.out _ HB1.out).1⟩

set_option maxHeartbeats 1000000 in
theorem grey_ok {o s h r k b off z cap : Nat} {s5 : Int} {B : Nat} {f : Nat → Int} (H : (⟨o, s, h, r, k⟩ : Sh).Ok) (hz : size ⟨o, s, h, r, k⟩ = z) (hc : z ≤ cap) {w : World} (hS : Sees w B (some ⟨b, off, none⟩) z f) (hB : B ≤ w.heap.size) (hf : ∀ i, i < z → 0 ≤ f i ∧ f i < 18446744073709551616) :
    Calls Tryz.prog 63 #[.agg #[.int .i64 (o : Int), .int .i64 (s : Int), .int .i64 (h : Int), .int .i64 (r : Int), .int .i64 (k : Int), .int .i64 s5, .slice (some ⟨b, off, none⟩) z cap]] w fun e w' => (∃ fa cf, e = .returned (.tuple #[.slice fa (lst ⟨o, s, h, r, k⟩ f 2 1).1.length cf, .int .i64 (lst ⟨o, s, h, r, k⟩ f 2 1).2]) ∧ Hid (w'.ownsRow w.heap.size 3 1 (.slice fa (lst ⟨o, s, h, r, k⟩ f 2 1).1.length cf) (lst ⟨o, s, h, r, k⟩ f 2 1).1.length (ncs (lst ⟨o, s, h, r, k⟩ f 2 1).1))) ∧ Below w.heap.size w w' := by
  obtain ⟨W0, hW0, B0, K⟩ := mbox w o s h r k b off z cap s5
  have HB := hide B0
  have LO := hide (list_ok (b := b) (off := off) (s5 := s5) (at' := 2) (over := 1) H hz hc (by decide) (by decide) (w := W0) (hS.below B0 hB) (by have := B0.size; omega) hf)
  simp only [show ((1 : Nat) : Int) = 1 from rfl, show ((2 : Nat) : Int) = 2 from rfl, show ((3 : Nat) : Int) = 3 from rfl] at LO
  obtain ⟨R, hR⟩ : ∃ R, lst ⟨o, s, h, r, k⟩ f 2 1 = R := ⟨_, rfl⟩
  rw [hR] at LO ⊢
  clear hR H hz hS hB hf
  obtain ⟨-, l0, x0, x1, x2, x3, x4, x5, x6⟩ := K.out W0 (Below.refl _ _)
  clear B0
  go_enter Tryz.func63, Tryz.ntmps63
  go_wp2_with (go_at_call 88; refine LO.out.mono ?_; rintro e w1 ⟨⟨fa, cf, rfl, HO⟩, hb1⟩; have HB1 := hide hb1; clear hb1)
  go_ret2
  exact ⟨⟨fa, cf, rfl, owns_low HO.out HB.out.size⟩, (K.out _ HB1.out).1⟩

set_option maxHeartbeats 1000000 in
theorem queue_ok {o s h r k b off z cap : Nat} {s5 : Int} {B : Nat} {f : Nat → Int} (H : (⟨o, s, h, r, k⟩ : Sh).Ok) (hz : size ⟨o, s, h, r, k⟩ = z) (hc : z ≤ cap) {w : World} (hS : Sees w B (some ⟨b, off, none⟩) z f) (hB : B ≤ w.heap.size) (hf : ∀ i, i < z → 0 ≤ f i ∧ f i < 18446744073709551616) :
    Calls Tryz.prog 64 #[.agg #[.int .i64 (o : Int), .int .i64 (s : Int), .int .i64 (h : Int), .int .i64 (r : Int), .int .i64 (k : Int), .int .i64 s5, .slice (some ⟨b, off, none⟩) z cap]] w fun e w' => (∃ fa cf, e = .returned (.tuple #[.slice fa (lst ⟨o, s, h, r, k⟩ f 3 2).1.length cf, .int .i64 (lst ⟨o, s, h, r, k⟩ f 3 2).2]) ∧ Hid (w'.ownsRow w.heap.size 3 1 (.slice fa (lst ⟨o, s, h, r, k⟩ f 3 2).1.length cf) (lst ⟨o, s, h, r, k⟩ f 3 2).1.length (ncs (lst ⟨o, s, h, r, k⟩ f 3 2).1))) ∧ Below w.heap.size w w' := by
  obtain ⟨W0, hW0, B0, K⟩ := mbox w o s h r k b off z cap s5
  have HB := hide B0
  have LO := hide (list_ok (b := b) (off := off) (s5 := s5) (at' := 3) (over := 2) H hz hc (by decide) (by decide) (w := W0) (hS.below B0 hB) (by have := B0.size; omega) hf)
  simp only [show ((1 : Nat) : Int) = 1 from rfl, show ((2 : Nat) : Int) = 2 from rfl, show ((3 : Nat) : Int) = 3 from rfl] at LO
  obtain ⟨R, hR⟩ : ∃ R, lst ⟨o, s, h, r, k⟩ f 3 2 = R := ⟨_, rfl⟩
  rw [hR] at LO ⊢
  clear hR H hz hS hB hf
  obtain ⟨-, l0, x0, x1, x2, x3, x4, x5, x6⟩ := K.out W0 (Below.refl _ _)
  clear B0
  go_enter Tryz.func64, Tryz.ntmps64
  go_wp2_with (go_at_call 88; refine LO.out.mono ?_; rintro e w1 ⟨⟨fa, cf, rfl, HO⟩, hb1⟩; have HB1 := hide hb1; clear hb1)
  go_ret2
  exact ⟨⟨fa, cf, rfl, owns_low HO.out HB.out.size⟩, (K.out _ HB1.out).1⟩

theorem owns_set {w : World} {base : Nat} {e : TypeId} {size : Nat} {v : Value} {n : Nat} {xs : List Value} (h : w.ownsRow base e size v n xs) {a : Addr} (ha : a.block < base) (u : Value) : (w.setCell a u).ownsRow base e size v n xs := owns_keep h (fun b hb hl => Below.heap_setCell _ _ _ _ (by omega))
set_option maxHeartbeats 2000000 in
theorem objectOf_ok {b off s cap B : Nat} {g : Nat → Int} {co : Int} {w : World} (hs : s ≤ 4) (hc : 3 + s ≤ cap) (hS : Sees w B (some ⟨b, off, none⟩) (3 + s) g) (hB : B ≤ w.heap.size) (h0 : 0 ≤ g 0) (h1 : g 0 < 18446744073709551616) :
    Calls Tryz.prog 61 #[.slice (some ⟨b, off, none⟩) (3 + s) cap, .int .i64 co] w fun e w' => (∃ ai ci, e = .returned (.agg #[.bool (hasB (g 0) 1), .bool (numB (g 0) 2 == co), .bool (hasB (g 0) 4), .bool (hasB (g 0) 8), .int .i64 (g 0 / 256 % 256), .int .u64 (g 0 / 4294967296), .int .u64 (g 1), .int .u64 (g 2), .slice ai s ci]) ∧ Hid (w'.ownsRow w.heap.size 24 1 (.slice ai s ci) s (wcs s (fun i => g (3 + i))))) ∧ Below w.heap.size w w' := by
  have HS := hide (fun (w' : World) (hb : Below w.heap.size w w') (i : Nat) (hi : i < 3 + s) => show w'.cell? ⟨b, off + i, none⟩ = some (.int .u64 (g i)) by
    obtain ⟨b1, o1, e1, hl, hc⟩ := hS i hi
    cases e1
    exact (hb.cell (p := ⟨b, off + i, none⟩) (by show b < w.heap.size; omega)).trans hc)
  have HSS := hide hS
  have hbl : b < w.heap.size := by obtain ⟨b1, o1, e1, hl, hc⟩ := hS 0 (by omega); cases e1; omega
  obtain ⟨p, hsl, hp⟩ := slice_from (b := b) (off := off) (z := 3 + s) 3 (by omega) hc
  simp only [show ((3 : Nat) : Int) = 3 from rfl, show 3 + s - 3 = s by omega] at hsl hp
  have HP := hide hp
  clear hS hp
  have HU := hide (fun w1 => unpack_word (g 0) h0 h1 w1)
  simp only [obj] at HU
  obtain ⟨W0, hW0⟩ : ∃ W0, w.alloc (.cells #[.bool false, .bool false, .bool false, .bool false, .int .i64 0, .int .u64 0, .int .u64 0, .int .u64 0, .slice none 0 0] 46) = W0 := ⟨_, rfl⟩
  have HB := hide (show Below w.heap.size w W0 by rw [← hW0]; exact (Below.refl _ w).alloc (Nat.le_refl _) _)
  have c0 : W0.cell? ⟨b, off, none⟩ = some (.int .u64 (g 0)) := by simpa using HS.out W0 HB.out 0 (by omega)
  have i0 : (0 : Int) < ((3 + s : Nat) : Int) := by omega
  go_enter Tryz.func61, Tryz.ntmps61
  go_upto_region 3 with (go_at_call 87; refine (HU.out _).mono ?_; rintro e w1 ⟨rfl, hb1⟩; have HB1 := hide hb1; clear hb1)
  have HB01 := hide (HB.out.trans (HB1.out.mono HB.out.size))
  have hb1 : b < w1.heap.size := by have := HB01.out.size; omega
  have hne : ¬ b = w1.heap.size := by omega
  have d1 := HS.out w1 HB01.out 1 (by omega)
  have d2 := HS.out w1 HB01.out 2 (by omega)
  have i1 : (1 : Int) < ((3 + s : Nat) : Int) := by omega
  have i2 : (2 : Int) < ((3 + s : Nat) : Int) := by omega
  have HR0 := hide (show W0.rowIs w.heap.size 46 9 (lrow [.bool false, .bool false, .bool false, .bool false, .int .i64 0, .int .u64 0, .int .u64 0, .int .u64 0, .slice none 0 0]) by rw [← hW0]; exact rowL_alloc w [.bool false, .bool false, .bool false, .bool false, .int .i64 0, .int .u64 0, .int .u64 0, .int .u64 0, .slice none 0 0] _ rfl)
  have hl0 : w.heap.size < W0.heap.size := HR0.out.lt
  have hl1 : W0.heap.size ≤ w1.heap.size := HB1.out.size
  clear c0 hW0
  go_region
  obtain ⟨W3, hW3⟩ : ∃ W3, (w1.alloc (.cells #[.bool (hasB (g 0) 1), .bool (numB (g 0) 2 == co), .bool (hasB (g 0) 4), .bool (hasB (g 0) 8), .int .i64 (g 0 / 256 % 256), .int .u64 (g 0 / 4294967296), .int .u64 (g 1), .int .u64 (g 2), .slice none 0 0] 46)).drew = W3 := ⟨_, rfl⟩
  have B3 : Below w1.heap.size w1 W3 := by rw [← hW3]; exact ((Below.refl _ w1).alloc (Nat.le_refl _) _).drew
  have HB3 := hide (HB1.out.trans (B3.mono HB1.out.size))
  have HB03 := hide (HB.out.trans (HB3.out.mono HB.out.size))
  have HR3 := hide (show W3.rowIs w1.heap.size 46 9 (lrow [.bool (hasB (g 0) 1), .bool (numB (g 0) 2 == co), .bool (hasB (g 0) 4), .bool (hasB (g 0) 8), .int .i64 (g 0 / 256 % 256), .int .u64 (g 0 / 4294967296), .int .u64 (g 1), .int .u64 (g 2), .slice none 0 0]) by rw [← hW3]; exact (rowL_alloc w1 [.bool (hasB (g 0) 1), .bool (numB (g 0) 2 == co), .bool (hasB (g 0) 4), .bool (hasB (g 0) 8), .int .i64 (g 0 / 256 % 256), .int .u64 (g 0 / 4294967296), .int .u64 (g 1), .int .u64 (g 2), .slice none 0 0] _ rfl).drew)
  have l3 : w1.heap.size < W3.heap.size := HR3.out.lt
  have CV := hide (copied_v (w := W3) (cap := cap - 3) (part_sees (at' := 3) (n := s) HSS.out HB03.out hB (Nat.le_refl _) HP.out) (Nat.le_refl _) (by omega))
  simp only [hW3]
  clear hW3 d1 d2 B3
  go_wp2_with (fail)
  refine CV.out.mono ?_
  rintro e w4 ⟨ga, rfl, HO4, hb4⟩
  have HB4 := hide hb4
  clear hb4
  have R4 := HR3.out.of_block (HB4.out.block _ l3)
  have R5 := HR0.out.of_block ((HB4.out.block _ (by omega)).trans (HB3.out.block _ hl0))
  obtain ⟨e0, e1, e2, e3, e4, e5, e6, e7, e8⟩ : w4.cell? ⟨w1.heap.size, 0, none⟩ = some (.bool (hasB (g 0) 1)) ∧ w4.cell? ⟨w1.heap.size, 1, none⟩ = some (.bool (numB (g 0) 2 == co)) ∧ w4.cell? ⟨w1.heap.size, 2, none⟩ = some (.bool (hasB (g 0) 4)) ∧ w4.cell? ⟨w1.heap.size, 3, none⟩ = some (.bool (hasB (g 0) 8)) ∧ w4.cell? ⟨w1.heap.size, 4, none⟩ = some (.int .i64 (g 0 / 256 % 256)) ∧ w4.cell? ⟨w1.heap.size, 5, none⟩ = some (.int .u64 (g 0 / 4294967296)) ∧ w4.cell? ⟨w1.heap.size, 6, none⟩ = some (.int .u64 (g 1)) ∧ w4.cell? ⟨w1.heap.size, 7, none⟩ = some (.int .u64 (g 2)) ∧ w4.cell? ⟨w1.heap.size, 8, none⟩ = some (.slice none 0 0) := ⟨R4.cell (i := 0) (by decide), R4.cell (i := 1) (by decide), R4.cell (i := 2) (by decide), R4.cell (i := 3) (by decide), R4.cell (i := 4) (by decide), R4.cell (i := 5) (by decide), R4.cell (i := 6) (by decide), R4.cell (i := 7) (by decide), R4.cell (i := 8) (by decide)⟩
  obtain ⟨z0, z1, z2, z3, z4, z5, z6, z7, z8⟩ : w4.cell? ⟨w.heap.size, 0, none⟩ = some (.bool false) ∧ w4.cell? ⟨w.heap.size, 1, none⟩ = some (.bool false) ∧ w4.cell? ⟨w.heap.size, 2, none⟩ = some (.bool false) ∧ w4.cell? ⟨w.heap.size, 3, none⟩ = some (.bool false) ∧ w4.cell? ⟨w.heap.size, 4, none⟩ = some (.int .i64 0) ∧ w4.cell? ⟨w.heap.size, 5, none⟩ = some (.int .u64 0) ∧ w4.cell? ⟨w.heap.size, 6, none⟩ = some (.int .u64 0) ∧ w4.cell? ⟨w.heap.size, 7, none⟩ = some (.int .u64 0) ∧ w4.cell? ⟨w.heap.size, 8, none⟩ = some (.slice none 0 0) := ⟨R5.cell (i := 0) (by decide), R5.cell (i := 1) (by decide), R5.cell (i := 2) (by decide), R5.cell (i := 3) (by decide), R5.cell (i := 4) (by decide), R5.cell (i := 5) (by decide), R5.cell (i := 6) (by decide), R5.cell (i := 7) (by decide), R5.cell (i := 8) (by decide)⟩
  have fz4 : ∀ i, w4.frozen? ⟨w1.heap.size, i, none⟩ = false := fun i => R4.frozen i
  have fz5 : ∀ i, w4.frozen? ⟨w.heap.size, i, none⟩ = false := fun i => R5.frozen i
  have hne2 : ¬ w.heap.size = w1.heap.size := by omega
  have hne3 : ¬ w1.heap.size = w.heap.size := by omega
  clear R4 R5
  go_wp2
  refine bodyPost_ret (v := .agg #[.bool (hasB (g 0) 1), .bool (numB (g 0) 2 == co), .bool (hasB (g 0) 4), .bool (hasB (g 0) 8), .int .i64 (g 0 / 256 % 256), .int .u64 (g 0 / 4294967296), .int .u64 (g 1), .int .u64 (g 2), .slice (some ⟨ga, 0, none⟩) s s]) (by simp [results, Tryz.results61, go_sem, *]) rfl ⟨⟨some ⟨ga, 0, none⟩, s, rfl, ?_⟩, ?_⟩
  · refine owns_low (base := W3.heap.size) ?_ (by omega)
    repeat' refine owns_set ?_ (by simp only; omega) _
    exact HO4.out
  · repeat' refine Below.setCell ?_ (by simp only; omega) _
    exact HB03.out.trans (HB4.out.mono HB03.out.size)
end Vw
end Go.Proofs.YtecjegjnnahddaaGreat

/-
  A region that draws its order, by a table of what each operation tells, with several slots whose values the invariant tells.
-/
namespace Go.Proofs.YtecjegjnnahddaaGreat
open Go.RowKit
set_option linter.unusedVariables false
set_option linter.unusedSimpArgs false
namespace LtH
open Lt hiding In Does region
structure In (ks : List (Nat × Nat)) (vals : Nat → Value) (xs : List Nat) (WI : (Nat → Bool) → (Nat → Value) → World → Prop) (a0 : Act) (L : Nat → Bool) (a : Act) (w : World) : Prop where
  sz : a.tmps.size = a0.tmps.size
  df : a.defers = a0.defers
  fix : ∀ k, ¬ D ks k → xs.contains k = false → a.eval (.tmp k) = a0.eval (.tmp k)
  pure : ∀ i d v, pv ks vals i = some (d, v) → L i = true → a.eval (.tmp d) = v
  world : WI L (fun k => a.eval (.tmp k)) w

inductive Does (P : Program) (Q : Exit → Act → World → Prop) (ks : List (Nat × Nat)) (vals : Nat → Value) (xs : List Nat) (WI : (Nat → Bool) → (Nat → Value) → World → Prop) (a0 : Act) (i : Nat) (o : Oper) : Prop where
  | mk (dst : o.dst = Lt.look ks i) (wp : ∀ L a w (K : Act → World → Prop), In ks vals xs WI a0 L a w → L i = false → (∀ e ∈ o.after, Region.binds .any e = true → L e.on = true) → (∀ w' v, (∀ d, o.dst = some d → v = vals i) → WI (up L i) (fun k => a.eval (.tmp k)) w' → K (a.put o.dst v) w') → o.wp P a w K Q)
  | own (x : Nat) (dst : o.dst = some x) (hx : xs.contains x = true) (no : Lt.look ks i = none) (wp : ∀ L a w (K : Act → World → Prop), In ks vals xs WI a0 L a w → L i = false → (∀ e ∈ o.after, Region.binds .any e = true → L e.on = true) → (∀ w' v, WI (up L i) (fun k => if k = x then v else a.eval (.tmp k)) w' → K (a.put (some x) v) w') → o.wp P a w K Q)

theorem region2 {P : Program} {id : Nat} {ops : Array Oper} {Q : Exit → Act → World → Prop} {ks : List (Nat × Nat)} {vals : Nat → Value} {xs : List Nat} {WI : (Nat → Bool) → (Nat → Value) → World → Prop} {w0 : World} {a0 : Act}
    (hm : P.follows .mixedOrders = true) (hg : ∀ (i : Nat) (o : Oper), ops[i]? = some o → o.guard = none) (hback : ∀ (i : Nat) (o : Oper), ops[i]? = some o → ∀ e ∈ o.after, Region.binds .any e = true → e.on < i)
    (hgood : (ks.all fun p => (ks.all fun q => p.1 == q.1 || p.2 != q.2) && !xs.contains p.2) = true) (hD : ∀ k, D ks k → k < a0.tmps.size) (hX : ∀ k, xs.contains k = true → k < a0.tmps.size)
    (hloc : ∀ L s s' w, (∀ k, xs.contains k = true → s k = s' k) → WI L s w → WI L s' w) (hW0 : WI (fun _ => false) (fun k => a0.eval (.tmp k)) { w0 with drawn := w0.drawn + 1 })
    (does : ∀ (i : Nat) (o : Oper), ops[i]? = some o → Does P Q ks vals xs WI a0 i o)
    (fin : ∀ L a w, In ks vals xs WI a0 L a w → (∀ i, i < ops.size → L i = true) → Q .normal a w) :
    (Code.region id ops true).wp P Q a0 w0 := by
  simp only [List.all_eq_true, bne_iff_ne, Bool.or_eq_true, beq_iff_eq, Bool.and_eq_true, Bool.not_eq_true'] at hgood
  have pvm : ∀ {i d v}, pv ks vals i = some (d, v) → (i, d) ∈ ks := fun {i d v} h => by
    obtain ⟨d', h1, h2⟩ := Option.map_eq_some_iff.1 h
    cases h2; exact Lt.look_mem h1
  refine Lt.region_inv hm hback (fun L a w => In ks vals xs WI a0 L a w) ?step (fun L a w h hall => fin L a w h hall) ?start
  case start => exact ⟨rfl, rfl, fun _ _ _ => rfl, fun _ _ _ _ h => (by cases h), hW0⟩
  case step =>
    rintro L a w i o h ho hL hd
    have none_ok : ∀ {j d' v'}, Lt.look ks i = none → pv ks vals j = some (d', v') → up L i j = true → L j = true := fun {j d' v'} hlk hj hLj => by
      have hji : j ≠ i := fun e => by
        subst e
        obtain ⟨d'', h1, _⟩ := Option.map_eq_some_iff.1 hj
        rw [hlk] at h1; cases h1
      rwa [up_other _ hji] at hLj
    refine .inl ⟨by simp [Region.wanted, hg i o ho], ?_⟩
    rcases does i o ho with ⟨hdst, hwp⟩ | ⟨x, hdst, hx, hno, hwp⟩
    · refine hwp L a w _ h hL hd (fun w' v hv hW => ?_)
      cases hlk : Lt.look ks i with
      | none =>
        rw [hdst, hlk]
        exact ⟨h.sz, h.df, h.fix, fun j d' v' hj hLj => h.pure j d' v' hj (none_ok hlk hj hLj), hW⟩
      | some d =>
        have hv' := hv d (hdst.trans hlk)
        subst hv'
        rw [hdst, hlk]
        have hm' : (i, d) ∈ ks := Lt.look_mem hlk
        have hDd : D ks d := by simp only [D, List.any_eq_true, beq_iff_eq]; exact ⟨_, hm', rfl⟩
        have e : ∀ k : Nat, k ≠ d → (a.put (some d) (vals i)).eval (.tmp k) = a.eval (.tmp k) := fun k hk => Lt.put_other hk
        refine ⟨by rw [Lt.put_size]; exact h.sz, by rw [Lt.put_defs]; exact h.df, fun k hk hkx => ?_, fun j d' v' hj hLj => ?_, hloc _ _ _ _ (fun k hk => (e k (fun he => by subst he; rw [(hgood _ hm').2] at hk; cases hk)).symm) hW⟩
        · rw [e k (fun he => hk (he ▸ hDd))]; exact h.fix k hk hkx
        · by_cases hij : j = i
          · subst hij
            rw [pv, hlk] at hj
            cases hj
            exact Lt.put_eval (by rw [h.sz]; exact hD _ hDd)
          · rw [up_other _ hij] at hLj
            have : d' ≠ d := by
              rcases (hgood _ hm').1 _ (pvm hj) with e1 | e1
              · exact absurd e1.symm hij
              · exact Ne.symm e1
            rw [e d' this]
            exact h.pure j d' v' hj hLj
    · refine hwp L a w _ h hL hd (fun w' v hW => ?_)
      have e : ∀ k : Nat, k ≠ x → (a.put (some x) v).eval (.tmp k) = a.eval (.tmp k) := fun k hk => Lt.put_other hk
      have ex : (a.put (some x) v).eval (.tmp x) = v := Lt.put_eval (by rw [h.sz]; exact hX x hx)
      refine ⟨by rw [Lt.put_size]; exact h.sz, by rw [Lt.put_defs]; exact h.df, fun k hk hkx => by rw [e k (fun he => by subst he; rw [hx] at hkx; cases hkx)]; exact h.fix k hk hkx, fun j d' v' hj hLj => ?_, hloc _ _ _ _ (fun k hk => ?_) hW⟩
      · rw [e d' (fun he => by subst he; have := (hgood _ (pvm hj)).2; rw [hx] at this; cases this)]
        exact h.pure j d' v' hj (none_ok hno hj hLj)
      · by_cases he : k = x
        · subst he; simp [ex]
        · simp [he, e k he]

section
variable {P : Program} {Q : Exit → Act → World → Prop} {ks : List (Nat × Nat)} {vals : Nat → Value} {xs : List Nat} {WI : (Nat → Bool) → (Nat → Value) → World → Prop} {a0 : Act} {i : Nat} {o : Oper}
theorem Does.read (hd : o.dst = Lt.look ks i) (hW : ∀ L s w, WI L s w → WI (up L i) s w) (h : ∀ L a w, In ks vals xs WI a0 L a w → (∀ e ∈ o.after, Region.binds .any e = true → L e.on = true) → (execOp a.eval o).run P w = .ok (.value (vals i)) w) : Does P Q ks vals xs WI a0 i o :=
  .mk hd fun L a w K hI _ hdep hk => Lt.wp_value (h L a w hI hdep) (hk w _ (fun _ _ => rfl) (hW L _ w hI.world))
/-- A call whose answer the invariant tells. -/
theorem Does.call {x : Nat} {f : FuncId} {args : Array Value} (hd : o.dst = some x) (hx : xs.contains x = true) (hn : Lt.look ks i = none) (h : ∀ L a w, In ks vals xs WI a0 L a w → (∀ e ∈ o.after, Region.binds .any e = true → L e.on = true) → (execOp a.eval o).run P w = .ok (.enter f args) w)
    (hc : ∀ L s w, WI L s w → L i = false → Calls P f args w fun e w' => ∃ v, e = .returned v ∧ WI (up L i) (fun k => if k = x then v else s k) w') : Does P Q ks vals xs WI a0 i o :=
  .own x hd hx hn fun L a w K hI hL hdep hk => Lt.wp_call (h L a w hI hdep) ((hc L _ w hI.world hL).mono (by rintro e w' ⟨v, rfl, hw⟩; exact ⟨_, rfl, by rw [hd]; exact hk _ _ hw⟩))
/-- A slot of the invariant's, told anew in another. -/
theorem Does.copy {x y : Nat} (hd : o.dst = some x) (hx : xs.contains x = true) (hn : Lt.look ks i = none) (ho : o.op = .assign (.tmp y)) (hP : ∀ (ev : Operand → Value) (w : World), (execOp ev o).run P w = .ok (.value (ev (.tmp y))) w)
    (hw : ∀ L s w, WI L s w → L i = false → (∀ e ∈ o.after, Region.binds .any e = true → L e.on = true) → WI (up L i) (fun k => if k = x then s y else s k) w) : Does P Q ks vals xs WI a0 i o :=
  .own x hd hx hn fun L a w K hI hL hdep hk => Lt.wp_value (hP a.eval w) (by rw [hd]; exact hk _ _ (hw L _ w hI.world hL hdep))
end
/-- The frame behind it: the slots that were told, laid over those ahead of it. -/
def lay (a : Act) (l : List Nat) (b : Act) : Act := l.foldl (fun b k => b.put (some k) (a.eval (.tmp k))) b
theorem lay_size (a : Act) : ∀ (l : List Nat) (b : Act), (lay a l b).tmps.size = b.tmps.size ∧ (lay a l b).defers = b.defers
  | [], b => ⟨rfl, rfl⟩
  | k :: l, b => by
    have h := lay_size a l (b.put (some k) (a.eval (.tmp k)))
    simp only [lay, List.foldl] at h ⊢
    rw [h.1, h.2, Lt.put_size, Lt.put_defs]
    exact ⟨rfl, rfl⟩
theorem lay_eval (a : Act) : ∀ (l : List Nat) (b : Act) (k : Nat), (∀ x, x ∈ l → x < b.tmps.size) → (lay a l b).eval (.tmp k) = if k ∈ l then a.eval (.tmp k) else b.eval (.tmp k)
  | [], b, k, _ => by simp [lay]
  | x :: l, b, k, h => by
    have hx := h x (by simp)
    have ih := lay_eval a l (b.put (some x) (a.eval (.tmp x))) k (fun y hy => by rw [Lt.put_size]; exact h y (by simp [hy]))
    simp only [lay, List.foldl] at ih ⊢
    rw [ih]
    by_cases hl : k ∈ l
    · simp [hl]
    · simp only [hl, if_false]
      by_cases e : k = x
      · subst e; rw [Lt.put_eval hx]; simp
      · rw [Lt.put_other e]; simp [e, hl]
theorem act_ext {a b : Act} (hs : a.tmps.size = b.tmps.size) (hd : a.defers = b.defers) (h : ∀ k, a.eval (.tmp k) = b.eval (.tmp k)) : a = b := by
  obtain ⟨ta, da⟩ := a
  obtain ⟨tb, db⟩ := b
  simp only at hs hd
  subst hd
  congr 1
  apply Array.ext hs
  intro i h1 h2
  have := h i
  simpa [Act.eval, h1, h2] using this
theorem frame {ks : List (Nat × Nat)} {vals : Nat → Value} {xs : List Nat} {WI : (Nat → Bool) → (Nat → Value) → World → Prop} {a0 a : Act} {L : Nat → Bool} {w : World} (h : In ks vals xs WI a0 L a w) (l : List Nat) (hl : (ks.all fun p => l.contains p.2) = true) (hx : (xs.all fun k => l.contains k) = true) (hs : ∀ x, x ∈ l → x < a0.tmps.size) : a = lay a l a0 := by
  refine act_ext ?_ ?_ ?_
  · rw [(lay_size a l a0).1]; exact h.sz
  · rw [(lay_size a l a0).2]; exact h.df
  · intro k
    rw [lay_eval a l a0 k hs]
    by_cases hk : k ∈ l
    · simp [hk]
    · simp only [hk, if_false]
      refine h.fix k (fun hD => ?_) ?_
      · simp only [D, List.any_eq_true, beq_iff_eq] at hD
        obtain ⟨p, hp, e⟩ := hD
        simp only [List.all_eq_true] at hl
        have := hl p hp
        rw [e] at this
        simp [hk] at this
      · cases hc : xs.contains k with
        | false => rfl
        | true =>
          simp only [List.all_eq_true] at hx
          have := hx k (by simpa using hc)
          simp [hk] at this
end LtH
end Go.Proofs.YtecjegjnnahddaaGreat

/-
  A region that draws its order, some of its operations in a chain: what each link of the chain leaves, in slots and world; the others only read.
-/
namespace Go.Proofs.YtecjegjnnahddaaGreat
open Go.RowKit
set_option linter.unusedVariables false
set_option linter.unusedSimpArgs false
namespace LtC
open Lt (up up_same up_other)

def WI (cs : List Nat) (ra rb : Nat) (S : Nat → (Nat → Value) → World → Prop) (L : Nat → Bool) (s : Nat → Value) (w : World) : Prop :=
  (∃ n, n ≤ cs.length ∧ (∀ m i, cs[m]? = some i → (L i = true ↔ m < n)) ∧ S n s w) ∧ (L ra = true → L rb = true)

variable {cs : List Nat} {ra rb : Nat} {S : Nat → (Nat → Value) → World → Prop} {L : Nat → Bool} {s : Nat → Value} {w : World}
theorem WI.start (h : S 0 s w) : WI cs ra rb S (fun _ => false) s w := ⟨⟨0, Nat.zero_le _, fun m i _ => by simp, h⟩, fun e => by cases e⟩
theorem up_keep {b : Bool} (h : L rb = true) (i : Nat) : up L i rb = true := by
  by_cases e : rb = i
  · subst e; exact up_same _ _
  · rw [up_other _ e]; exact h
theorem WI.pass {i : Nat} (hi : cs.contains i = false) (hra : cs.contains ra = true) (h : WI cs ra rb S L s w) : WI cs ra rb S (up L i) s w := by
  obtain ⟨⟨n, hn, hL, hS⟩, hr⟩ := h
  refine ⟨⟨n, hn, fun m j hj => ?_, hS⟩, fun e => ?_⟩
  · rw [up_other _ (fun e => ?_)]
    · exact hL m j hj
    · subst e
      have := List.mem_of_getElem? hj
      simp [this] at hi
  · rw [up_other _ (fun e => by subst e; rw [hi] at hra; cases hra)] at e
    exact up_keep (b := true) (hr e) i
theorem WI.early (h : WI cs ra rb S L s w) {m : Nat} (hm : cs[m]? = some ra) (hL : L rb = false) : ∃ n, n ≤ m ∧ S n s w := by
  obtain ⟨⟨n, hn, hLn, hS⟩, hr⟩ := h
  refine ⟨n, ?_, hS⟩
  rcases Nat.lt_or_ge m n with hlt | hge
  · have := hr ((hLn m ra hm).2 hlt)
    rw [hL] at this
    cases this
  · exact hge
theorem WI.any (h : WI cs ra rb S L s w) : ∃ n, S n s w := by
  obtain ⟨⟨n, hn, hLn, hS⟩, hr⟩ := h
  exact ⟨n, hS⟩
theorem WI.at {m i : Nat} (hnd : cs.Nodup) (hm : cs[m]? = some i) (h : WI cs ra rb S L s w) (hL : L i = false) (hr' : i = ra → L rb = true) (hp : ∀ m' j, m = m' + 1 → cs[m']? = some j → L j = true) : S m s w ∧ ∀ s' w', S (m + 1) s' w' → WI cs ra rb S (up L i) s' w' := by
  obtain ⟨⟨n, hn, hLn, hS⟩, hr⟩ := h
  have h1 : ¬ m < n := fun hlt => by have := (hLn m i hm).2 hlt; rw [hL] at this; cases this
  have hlen := (List.getElem?_eq_some_iff.1 hm).1
  have h2 : m ≤ n := by
    cases m with
    | zero => omega
    | succ m' =>
      obtain ⟨j, hj⟩ : ∃ j, cs[m']? = some j := ⟨cs[m']'(by omega), List.getElem?_eq_getElem _⟩
      have := (hLn m' j hj).1 (hp m' j rfl hj)
      omega
  have h3 : m = n := by omega
  subst h3
  refine ⟨hS, fun s' w' hS' => ⟨⟨m + 1, by omega, fun m2 j hj => ?_, hS'⟩, fun e => ?_⟩⟩
  rotate_left
  · refine up_keep (b := true) ?_ i
    by_cases he : i = ra
    · exact hr' he
    · rw [up_other _ (Ne.symm he)] at e
      exact hr e
  by_cases he : j = i
  · subst he
    have e : m2 = m := by
      have h5 := (List.getElem?_eq_some_iff.1 hj).1
      have h6 := List.pairwise_iff_getElem.1 hnd
      have e1 := (List.getElem?_eq_some_iff.1 hj).2
      have e2 := (List.getElem?_eq_some_iff.1 hm).2
      rcases Nat.lt_trichotomy m2 m with h7 | h7 | h7
      · exact absurd (e1.trans e2.symm) (h6 m2 m h5 hlen h7)
      · exact h7
      · exact absurd (e2.trans e1.symm) (h6 m m2 hlen h5 h7)
    subst e
    simp [up_same]
  · rw [up_other _ he, hLn m2 j hj]
    constructor
    · omega
    · intro h4
      have : ¬ m2 = m := fun e => by subst e; rw [hm] at hj; cases hj; exact he rfl
      omega
theorem WI.done (h : WI cs ra rb S L s w) (hall : ∀ i, i ∈ cs → L i = true) : S cs.length s w := by
  obtain ⟨⟨n, hn, hL, hS⟩, _⟩ := h
  have : n = cs.length := by
    rcases Nat.lt_or_ge n cs.length with hlt | hge
    · obtain ⟨j, hj⟩ : ∃ j, cs[n]? = some j := ⟨cs[n]'hlt, List.getElem?_eq_getElem _⟩
      have := (hL n j hj).1 (hall j (List.mem_of_getElem? hj))
      omega
    · omega
  subst this
  exact hS

variable {P : Program} {Q : Exit → Act → World → Prop} {ks : List (Nat × Nat)} {vals : Nat → Value} {xs : List Nat} {a0 : Act} {i m : Nat} {o : Oper}
/-- It only reads; what it needs of the world each link keeps. -/
theorem read (hd : o.dst = Lt.look ks i) (hi : cs.contains i = false) (hra : cs.contains ra = true) (h : ∀ L a w, LtH.In ks vals xs (WI cs ra rb S) a0 L a w → L i = false → (∀ e ∈ o.after, Region.binds .any e = true → L e.on = true) → (execOp a.eval o).run P w = .ok (.value (vals i)) w) : LtH.Does P Q ks vals xs (WI cs ra rb S) a0 i o :=
  .mk hd fun L a w K hI hL hdep hk => Lt.wp_value (h L a w hI hL hdep) (hk w _ (fun _ _ => rfl) (hI.world.pass hi hra))
/-- A call: a link of the chain. -/
theorem call {x : Nat} {f : FuncId} {args : (Nat → Value) → Array Value} (hnd : cs.Nodup) (hm : cs[m]? = some i) (hd : o.dst = some x) (hx : xs.contains x = true) (hn : Lt.look ks i = none) (hr : ∀ (L : Nat → Bool), (∀ e ∈ o.after, Region.binds .any e = true → L e.on = true) → i = ra → L rb = true) (hp : ∀ (L : Nat → Bool), (∀ e ∈ o.after, Region.binds .any e = true → L e.on = true) → ∀ m' j, m = m' + 1 → cs[m']? = some j → L j = true)
    (h : ∀ L a w, LtH.In ks vals xs (WI cs ra rb S) a0 L a w → (∀ e ∈ o.after, Region.binds .any e = true → L e.on = true) → S m (fun k => a.eval (.tmp k)) w → (execOp a.eval o).run P w = .ok (.enter f (args (fun k => a.eval (.tmp k)))) w)
    (hc : ∀ s w, S m s w → Calls P f (args s) w fun e w' => ∃ v, e = .returned v ∧ S (m + 1) (fun k => if k = x then v else s k) w') : LtH.Does P Q ks vals xs (WI cs ra rb S) a0 i o :=
  .own x hd hx hn fun L a w K hI hL hdep hk => by
    obtain ⟨h1, h2⟩ := hI.world.at hnd hm hL (hr L hdep) (hp L hdep)
    refine Lt.wp_call (h L a w hI hdep h1) ((hc _ w h1).mono ?_)
    rintro e w' ⟨v, rfl, hw⟩
    exact ⟨v, rfl, by rw [hd]; exact hk _ _ (h2 _ _ hw)⟩
/-- Another operation that tells a slot: a link of the chain. -/
theorem link {x : Nat} (hnd : cs.Nodup) (hm : cs[m]? = some i) (hd : o.dst = some x) (hx : xs.contains x = true) (hn : Lt.look ks i = none) (hr : ∀ (L : Nat → Bool), (∀ e ∈ o.after, Region.binds .any e = true → L e.on = true) → i = ra → L rb = true) (hp : ∀ (L : Nat → Bool), (∀ e ∈ o.after, Region.binds .any e = true → L e.on = true) → ∀ m' j, m = m' + 1 → cs[m']? = some j → L j = true)
    (h : ∀ L a w (K : Act → World → Prop), LtH.In ks vals xs (WI cs ra rb S) a0 L a w → (∀ e ∈ o.after, Region.binds .any e = true → L e.on = true) → S m (fun k => a.eval (.tmp k)) w → (∀ v w', S (m + 1) (fun k => if k = x then v else a.eval (.tmp k)) w' → K (a.put o.dst v) w') → o.wp P a w K Q) : LtH.Does P Q ks vals xs (WI cs ra rb S) a0 i o :=
  .own x hd hx hn fun L a w K hI hL hdep hk => by
    obtain ⟨h1, h2⟩ := hI.world.at hnd hm hL (hr L hdep) (hp L hdep)
    exact h L a w K hI hdep h1 (fun v w' hS => by rw [hd]; exact hk w' v (h2 _ _ hS))
/-- A store: a link of the chain. -/
theorem store (hnd : cs.Nodup) (hm : cs[m]? = some i) (hd : o.dst = none) (hn : Lt.look ks i = none) (hr : ∀ (L : Nat → Bool), (∀ e ∈ o.after, Region.binds .any e = true → L e.on = true) → i = ra → L rb = true) (hp : ∀ (L : Nat → Bool), (∀ e ∈ o.after, Region.binds .any e = true → L e.on = true) → ∀ m' j, m = m' + 1 → cs[m']? = some j → L j = true)
    (h : ∀ L a w (K : Act → World → Prop), LtH.In ks vals xs (WI cs ra rb S) a0 L a w → (∀ e ∈ o.after, Region.binds .any e = true → L e.on = true) → S m (fun k => a.eval (.tmp k)) w → (∀ v w', S (m + 1) (fun k => a.eval (.tmp k)) w' → K (a.put o.dst v) w') → o.wp P a w K Q) : LtH.Does P Q ks vals xs (WI cs ra rb S) a0 i o :=
  .mk (by rw [hd, hn]) fun L a w K hI hL hdep hk => by
    obtain ⟨h1, h2⟩ := hI.world.at hnd hm hL (hr L hdep) (hp L hdep)
    exact h L a w K hI hdep h1 (fun v w' hS => hk w' v (fun d e => by rw [hd] at e; cases e) (h2 _ _ hS))
end LtC
end Go.Proofs.YtecjegjnnahddaaGreat

/-
  View: single operations: slices of one element, a slice's store; append at an operation.
-/
namespace Go.Proofs.YtecjegjnnahddaaGreat
open Go.RowKit
set_option linter.unusedVariables false
set_option linter.unusedSimpArgs false
set_option linter.unnecessarySimpa false
set_option maxRecDepth 20000
namespace Vw
open Shape
section
variable {ev : Operand → Value} {o : Oper} {w : World}
theorem ex_bsS {x : Operand} {ao : Option Addr} {n m : Nat} (ho : o.op = .buildSlice 26 1 #[(0, x)]) (hx : ev x = .slice ao n m) : (execOp ev o).run Tryz.prog w = .ok (.value (.slice (some ⟨w.heap.size, 0, none⟩) 1 1)) (w.alloc (.cells #[.slice ao n m] 25)) := by
  simp [execOp, ho, hx, go_sem]
theorem ex_bsO {x : Operand} {u l f t : Bool} {a g k n : Int} {ao : Option Addr} {p q : Nat} (ho : o.op = .buildSlice 27 1 #[(0, x)]) (hx : ev x = .agg #[.bool u, .bool l, .bool f, .bool t, .int .i64 a, .int .u64 g, .int .u64 k, .int .u64 n, .slice ao p q]) : (execOp ev o).run Tryz.prog w = .ok (.value (.slice (some ⟨w.heap.size, 0, none⟩) 1 1)) (w.alloc (.cells #[.bool u, .bool l, .bool f, .bool t, .int .i64 a, .int .u64 g, .int .u64 k, .int .u64 n, .slice ao p q] 46)) := by
  simp [execOp, ho, hx, go_sem]
theorem ex_arr {x : Operand} {b off : Nat} (ho : o.op = .slice 29 x none none none) (hx : ev x = .pointer (some ⟨b, off, none⟩)) : (execOp ev o).run Tryz.prog w = .ok (.value (.slice (some ⟨b, off, none⟩) 4 4)) w := by
  simp [execOp, ho, hx, go_sem]
end
theorem wp_storeS {P : Program} {Q : Exit → Act → World → Prop} {K : Act → World → Prop} {a : Act} {o : Oper} {w : World} {ty : TypeId} {x y : Operand} {b off : Nat} {ao : Option Addr} {n m : Nat} {u : Value} (ho : o.op = .store ty x y) (hd : o.dst = none) (hx : a.eval x = .pointer (some ⟨b, off, none⟩)) (hy : a.eval y = .slice ao n m) (hs : (sizeOf ty).run P w = .ok 1 w) (hc : w.cell? ⟨b, off, none⟩ = some u) (hf : w.frozen? ⟨b, off, none⟩ = false) (h : K (a.put o.dst undef) (w.setCell ⟨b, off, none⟩ (.slice ao n m))) : o.wp P a w K Q := by
  simp only [Oper.wp, execOp, ho, hx, hy]
  simp [go_sem, hc, hf, hs, Oper.upon]
  exact h
theorem wp_append {P : Program} {w : World} {o : Oper} {a : Act} {K : Act → World → Prop} {Q : Exit → Act → World → Prop} (s x : Operand) (t : TypeId)
    (ho : o.op = .call { callee := .builtin .append, args := #[s, x], argTypes := #[t, t] })
    (base : Nat) (e : TypeId) (i : TypeInfo) (z : Value) (size bytes : Nat) (ht : P.underlying t = some (.slice e)) (hi : P.info? e = some i) (hz : i.zero = some z)
    (hsize : i.size = size) (hby : i.bytes = bytes) (hzs : z.cells.size = size) (hsz : 0 < size)
    (v : Value) (n : Nat) (xs : List Value) (hs : a.eval s = v) (hown : w.ownsRow base e size v n xs)
    (ad : Addr) (m c : Nat) (news : List Value) (hx : a.eval x = .slice (some ad) m c) (hl : news.length = m * size) (hnews : ∀ j u, news[j]? = some u → w.cell? (ad.add j) = some u) (h1 : ∀ u ∈ news, u.oneCell' = true)
    (h63 : n + m ≤ maxLen) (hbytes : (n + m) * bytes ≤ 140737488355328) (hbase : base ≤ w.heap.size)
    (h : ∀ v' w', w'.ownsRow base e size v' (n + m) (xs ++ news) → w.grownBy w' v.ownBlock → K (a.put o.dst v') w') : o.wp P a w K Q := by
  obtain ⟨v', w', hr, h2, h3, _, _⟩ := run_append_own_at (P := P) w base t o.type e i z size bytes ht hi hz hsize hby hzs hsz v n xs hown ad m c news hl hnews h1 h63 hbytes hbase
  unfold Oper.wp execOp
  simp only [ho, resolve, invoke, builtin, Sem.run_bind, Sem.run_pure, Result.andThen_ok, List.map_toArray, List.map_cons, List.map_nil, hs, hx, hr]
  exact h v' w' h2 h3

theorem row_set {W : World} {g : Nat} {t : TypeId} {n : Nat} {l : List Value} (hr : W.rowIs g t n (lrow l)) (hl : l.length = n) (i : Nat) (v : Value) : (W.setCell ⟨g, i, none⟩ v).rowIs g t n (lrow (l.set i v)) := by
  obtain ⟨cur, h1, h2, h3⟩ := hr.set i v
  refine ⟨cur, h1, h2, fun j hj => ?_⟩
  rw [h3 j hj]
  congr 1
  simp only [lrow, List.getElem?_set]
  by_cases e : j = i
  · subst e; simp [hl, hj]
  · simp [e, Ne.symm e]
theorem rng7 {w' : World} {b : Nat} {v0 v1 v2 v3 v4 v5 v6 : Value} (y0 : w'.cell? ⟨b, 0, none⟩ = some v0) (y1 : w'.cell? ⟨b, 1, none⟩ = some v1) (y2 : w'.cell? ⟨b, 2, none⟩ = some v2) (y3 : w'.cell? ⟨b, 3, none⟩ = some v3) (y4 : w'.cell? ⟨b, 4, none⟩ = some v4) (y5 : w'.cell? ⟨b, 5, none⟩ = some v5) (y6 : w'.cell? ⟨b, 6, none⟩ = some v6) : w'.rangeAt b 0 [v0, v1, v2, v3, v4, v5, v6] := by
  intro j v hv
  match j, hv with
  | 0, hv => cases hv; simpa using y0
  | 1, hv => cases hv; simpa using y1
  | 2, hv => cases hv; simpa using y2
  | 3, hv => cases hv; simpa using y3
  | 4, hv => cases hv; simpa using y4
  | 5, hv => cases hv; simpa using y5
  | 6, hv => cases hv; simpa using y6
theorem row_on {W W' : World} {g : Nat} {t : TypeId} {n : Nat} {F : Nat → Value} (hr : W.rowIs g t n F) (hb : Below W.heap.size W W') : W'.rowIs g t n F := hr.of_block (hb.block g hr.lt)


theorem cells_new (w : World) (l : List Value) (t : TypeId) : ∀ j u, l[j]? = some u → (w.alloc (.cells l.toArray t)).cell? ((⟨w.heap.size, 0, none⟩ : Addr).add j) = some u := by
  intro j u hj
  have hl := (List.getElem?_eq_some_iff.1 hj).1
  rw [Go.WideShapes.add_plain, Nat.zero_add, (rowL_alloc w l t rfl).cell hl]
  simp [lrow, hj]

/-- What 'x.f = append(x.f, g(h(..)))' leaves, link by link: h's answer, g's, the slice of one, append's, the store's. -/
def AS (wr : World) (bb vb fld : Nat) (e : TypeId) (size : Nat) (rv : Value) (q : Nat) (rs : List Value) (x1 x2 x3 x4 : Nat) (A : Value → Prop) (Bp : World → Value → Prop) : Nat → (Nat → Value) → World → Prop
  | 0, s, w => Below wr.heap.size wr w
  | 1, s, w => Below wr.heap.size wr w ∧ A (s x1)
  | 2, s, w => Below wr.heap.size wr w ∧ Bp w (s x2)
  | 3, s, w => Below wr.heap.size wr w ∧ Bp w (s x2) ∧ ∃ g6, s x3 = .slice (some ⟨g6, 0, none⟩) 1 1 ∧ ∀ j u, (s x2).cells.toList[j]? = some u → w.cell? ((⟨g6, 0, none⟩ : Addr).add j) = some u
  | 4, s, w => ∃ w6, Below wr.heap.size wr w6 ∧ Bp w6 (s x2) ∧ w6.grownBy w rv.ownBlock ∧ w.ownsRow bb e size (s x4) (q + 1) (rs ++ (s x2).cells.toList)
  | _, s, w => ∃ w6 w7, Below wr.heap.size wr w6 ∧ Bp w6 (s x2) ∧ w6.grownBy w7 rv.ownBlock ∧ w7.ownsRow bb e size (s x4) (q + 1) (rs ++ (s x2).cells.toList) ∧ w = w7.setCell ⟨vb, fld, none⟩ (s x4)
section
variable {wr : World} {bb vb fld : Nat} {e : TypeId} {size : Nat} {rv : Value} {q : Nat} {rs : List Value} {x1 x2 x3 x4 : Nat} {A : Value → Prop} {Bp : World → Value → Prop} {n : Nat} {s s' : Nat → Value} {w : World}
theorem AS.local (h1 : s x1 = s' x1) (h2 : s x2 = s' x2) (h3 : s x3 = s' x3) (h4 : s x4 = s' x4) (h : AS wr bb vb fld e size rv q rs x1 x2 x3 x4 A Bp n s w) : AS wr bb vb fld e size rv q rs x1 x2 x3 x4 A Bp n s' w := by
  match n, h with
  | 0, h => exact h
  | 1, h => simp only [AS] at h ⊢; rw [← h1]; exact h
  | 2, h => simp only [AS] at h ⊢; rw [← h2]; exact h
  | 3, h => simp only [AS] at h ⊢; rw [← h2, ← h3]; exact h
  | 4, h => simp only [AS] at h ⊢; rw [← h2, ← h4]; exact h
  | n + 5, h => simp only [AS] at h ⊢; rw [← h2, ← h4]; exact h
theorem AS.early (hn : n ≤ 3) (h : AS wr bb vb fld e size rv q rs x1 x2 x3 x4 A Bp n s w) : Below wr.heap.size wr w := by
  match n, hn, h with
  | 0, _, h => exact h
  | 1, _, h => exact h.1
  | 2, _, h => exact h.1
  | 3, _, h => exact h.1
theorem AS.low (hv : vb < bb) (hb : bb ≤ wr.heap.size) (HO : wr.ownsRow bb e size rv q rs) (h : AS wr bb vb fld e size rv q rs x1 x2 x3 x4 A Bp n s w) : Below vb wr w := by
  have hl : ∀ {w6 w7 : World}, Below wr.heap.size wr w6 → w6.grownBy w7 rv.ownBlock → Below vb wr w7 := fun {w6 w7} h1 h2 => by
    have h3 := h1.size
    exact (below_grown (h1.mono hb) (owns_on HO h1) h2 (by omega)).mono (by omega)
  match n, h with
  | 0, h => exact Below.mono h (by omega)
  | 1, h => exact h.1.mono (by omega)
  | 2, h => exact h.1.mono (by omega)
  | 3, h => exact h.1.mono (by omega)
  | 4, h =>
    obtain ⟨w6, h1, _, h3, _⟩ := h
    exact hl h1 h3
  | n + 5, h =>
    obtain ⟨w6, w7, h1, _, h3, _, rfl⟩ := h
    exact (hl h1 h3).setCell (Nat.le_refl _) _
theorem AS.other (hv : vb < bb) (hb : bb ≤ wr.heap.size) (HO : wr.ownsRow bb e size rv q rs) (h : AS wr bb vb fld e size rv q rs x1 x2 x3 x4 A Bp n s w) {t : TypeId} {m : Nat} {F : Nat → Value} (hr : wr.rowIs vb t m F) {i : Nat} (hi : i < m) (hne : ¬ i = fld) : w.cell? ⟨vb, i, none⟩ = some (F i) := by
  have hl : ∀ {w6 w7 : World}, Below wr.heap.size wr w6 → w6.grownBy w7 rv.ownBlock → w7.rowIs vb t m F := fun {w6 w7} h1 h2 => (row_on hr h1).of_block (h2.block vb (by have := hr.lt; have := h1.size; omega) (fun e => by have := (HO.lt vb e.symm).1; omega))
  match n, h with
  | 0, h => exact (row_on hr h).cell hi
  | 1, h => exact (row_on hr h.1).cell hi
  | 2, h => exact (row_on hr h.1).cell hi
  | 3, h => exact (row_on hr h.1).cell hi
  | 4, h =>
    obtain ⟨w6, h1, _, h3, _⟩ := h
    exact (hl h1 h3).cell hi
  | n + 5, h =>
    obtain ⟨w6, w7, h1, _, h3, _, rfl⟩ := h
    rw [World.cell?_setCell_other _ _ _ _ (fun e => by injection e with _ e2 _; exact hne (by omega))]
    exact (hl h1 h3).cell hi
theorem AS.end (hv : vb < bb) (hb : bb ≤ wr.heap.size) (HO : wr.ownsRow bb e size rv q rs) (h : AS wr bb vb fld e size rv q rs x1 x2 x3 x4 A Bp 5 s w) :
    (w.ownsRow bb e size (s x4) (q + 1) (rs ++ (s x2).cells.toList)) ∧ (∃ w6, Below wr.heap.size wr w6 ∧ Bp w6 (s x2) ∧ ∀ e' size' v' n' xs', ¬ e' = e → w6.ownsRow bb e' size' v' n' xs' → w.ownsRow bb e' size' v' n' xs') ∧ (∀ e' size' v' n' xs', ¬ e' = e → wr.ownsRow bb e' size' v' n' xs' → w.ownsRow bb e' size' v' n' xs') ∧ (∀ t n l, wr.rowIs vb t n (lrow l) → l.length = n → w.rowIs vb t n (lrow (l.set fld (s x4)))) ∧ Below vb wr w := by
  have hlow := AS.low hv hb HO h
  obtain ⟨w6, w7, h1, h2, h3, h4, rfl⟩ := h
  have hk : ∀ e' size' v' n' xs', ¬ e' = e → w6.ownsRow bb e' size' v' n' xs' → (w7.setCell ⟨vb, fld, none⟩ (s x4)).ownsRow bb e' size' v' n' xs' := fun e' size' v' n' xs' hne h' => owns_set (h'.kept h3 (owns_ne h' (owns_on HO h1) hne)) hv _
  refine ⟨owns_set h4 hv _, ⟨w6, h1, h2, hk⟩, fun e' size' v' n' xs' hne h' => hk _ _ _ _ _ hne (owns_on h' h1), fun t n l hr hl => ?_, hlow⟩
  refine row_set ((row_on hr h1).of_block (h3.block vb (by have := hr.lt; have := h1.size; omega) (fun e => by have := (HO.lt vb e.symm).1; omega))) hl fld _
end
/-- What 'copy(v.f[:], m.part())' leaves, link by link. -/
def CS (wr : World) (vb : Nat) (L : List Value) (t : TypeId) (ad : Addr) (cs : List Value) : Nat → (Nat → Value) → World → Prop
  | 0, s, w => Below wr.heap.size wr w
  | 1, s, w => Below wr.heap.size wr w ∧ ∃ cp, s 81 = .slice (some ad) 4 cp
  | _, s, w => s 82 = goInt 4 ∧ ∃ w6, Below wr.heap.size wr w6 ∧ w.heap[vb]? = some (.cells (splice L 10 cs).toArray t (0, 0)) ∧ (∀ k, ¬ k = vb → w.heap[k]? = w6.heap[k]?) ∧ Below vb w6 w
theorem CS.local {wr : World} {vb : Nat} {L : List Value} {t : TypeId} {ad : Addr} {cs : List Value} {n : Nat} {s s' : Nat → Value} {w : World} (h1 : s 81 = s' 81) (h2 : s 82 = s' 82) (h : CS wr vb L t ad cs n s w) : CS wr vb L t ad cs n s' w := by
  match n, h with
  | 0, h => exact h
  | 1, h => simp only [CS] at h ⊢; rw [← h1]; exact h
  | n + 2, h => simp only [CS] at h ⊢; rw [← h2]; exact h
theorem CS.low {wr : World} {vb : Nat} {L : List Value} {t : TypeId} {ad : Addr} {cs : List Value} {n : Nat} {s : Nat → Value} {w : World} (hb : vb ≤ wr.heap.size) (h : CS wr vb L t ad cs n s w) : Below vb wr w := by
  match n, h with
  | 0, h => exact Below.mono h hb
  | 1, h => exact h.1.mono hb
  | n + 2, h =>
    obtain ⟨_, w6, h1, _, _, h4⟩ := h
    exact (h1.mono hb).trans h4
theorem ex_copy {ev : Operand → Value} {o : Oper} {w w' : World} {x y : Operand} {ax ay : Option Addr} {n m c d : Nat} {v : Value} (ho : o.op = .call { callee := .builtin .copy, args := #[x, y], argTypes := #[25, 25] }) (hx : ev x = .slice ax n c) (hy : ev y = .slice ay m d) (hr : (Builtin.copy_ #[25, 25] o.type #[.slice ax n c, .slice ay m d]).run Tryz.prog w = .ok v w') : (execOp ev o).run Tryz.prog w = .ok (.value v) w' := by
  simp [execOp, ho, hx, hy, resolve, invoke, builtin, hr, Result.andThen]
end Vw
end Go.Proofs.YtecjegjnnahddaaGreat

/-
  View: what is sound; the smaller questions
-/
namespace Go.Proofs.YtecjegjnnahddaaGreat
open Go.RowKit
set_option linter.unusedVariables false
set_option linter.unusedSimpArgs false
set_option linter.unnecessarySimpa false
set_option maxRecDepth 20000
namespace Vw
open Shape

/-- A handle that is good. -/
def good (c : Cv) (u : Int) : Prop := 1 ≤ u % 4294967296 ∧ u % 4294967296 ≤ (c.no : Int) ∧ (c.ob ((u % 4294967296).toNat - 1)).us = true ∧ (c.ob ((u % 4294967296).toNat - 1)).ge = u / 4294967296
def hOk (c : Cv) (u : Int) : Prop := ¬ u = 0 → good c u
def obOk (c : Cv) (j : Nat) : Prop := ((c.ob j).us = true → (c.ob j).li = true ∧ ¬ ((j : Int) + 1) ∈ c.fr) ∧ ((c.ob j).us = false → (((j : Int) + 1) ∈ c.fr ∨ (c.ob j).ge = 4294967295) ∧ ∀ q, q < (c.ob j).ns → (c.ob j).sl q = 0)
def quOk (c : Cv) (i : Int) : Prop := (c.ob (i.toNat - 1)).us = true ∧ (c.ob (i.toNat - 1)).fi = true ∧ (c.ob (i.toNat - 1)).ta = true
/-- All that is held. -/
structure HaOk (c : Cv) : Prop where
  wk : ∀ i, i < c.nw → hOk c (c.wk i)
  rt : ∀ j, j < c.nr → ∀ i, i < c.rn j → hOk c (c.rt j i)
  ob : ∀ j, j < c.no → (c.ob j).us = true → ∀ i, i < (c.ob j).ns → hOk c ((c.ob j).sl i)
/-- What bounds a view's numbers. -/
structure Cv.Ok (c : Cv) : Prop where
  wk : ∀ i, i < c.nw → 0 ≤ c.wk i ∧ c.wk i < 18446744073709551616
  rt : ∀ j, j < c.nr → ∀ i, i < c.rn j → 0 ≤ c.rt j i ∧ c.rt j i < 18446744073709551616
  sl : ∀ j, j < c.no → ∀ i, i < (c.ob j).ns → 0 ≤ (c.ob j).sl i ∧ (c.ob j).sl i < 18446744073709551616
  nw : c.nw ≤ 70000
  nr : c.nr ≤ 70000
  rn : ∀ j, j < c.nr → c.rn j ≤ 70000
  no : c.no ≤ 70000
  ns : ∀ j, j < c.no → (c.ob j).ns ≤ 70000
  fr : c.fr.length ≤ 70000
  gr : c.gr.length ≤ 70000
  qu : c.qu.length ≤ 70000
  qr : ∀ i, i ∈ c.qu → 1 ≤ i ∧ i ≤ (c.no : Int)

theorem something_ok (v : Int) (w : World) : Calls Tryz.prog 103 #[.int .u64 v] w fun e w' => e = .returned (.bool (v != 0)) ∧ w' = w := by
  go_enter Tryz.func103, Tryz.ntmps103
  go_wp2
  go_ret
  exact ⟨rfl, rfl⟩

set_option maxHeartbeats 1000000 in
theorem indexFunc_ok {w : World} {B : Nat} {ao : Option Addr} {n cap : Nat} {g : Nat → Int} (h : Sees w B ao n g) (hn : n ≤ 70000) :
    Calls Tryz.prog 105 #[.slice ao n cap, .func (.func 103) #[] #[]] w fun e w' => (∃ v, e = .returned (.int .i64 v) ∧ (¬ 0 ≤ v ↔ ∀ q, q < n → g q = 0)) ∧ w' = w := by
  have H := hide h
  clear h
  go_enter Tryz.func105, Tryz.ntmps105
  go_wp2_with fail
  go_loopw [8] (fun i wr => ∃ k : Nat, k ≤ n ∧ i = .int .i64 k ∧ Hid (∀ q, q < k → g q = 0) ∧ wr = w) (fun i _ => n - (intOf i).toNat)
  case atStart => exact ⟨0, Nat.zero_le _, rfl, fun q hq => absurd hq (by omega), rfl⟩
  case round =>
    obtain ⟨k, hk, rfl, HK, rfl⟩ := hrel
    by_cases hlt : k < n
    · obtain ⟨b, off, rfl, hbl, hcc⟩ := H.out k hlt
      have hkn : (k : Int) < (n : Int) := by omega
      have SO := hide (fun w1 => something_ok (g k) w1)
      by_cases he : g k = 0
      · have he2 : (g k != 0) = false := by simp [he]
        rw [he2] at SO
        have HE := hide he
        clear he he2
        go_wp2_with (go_at_call 103; refine (SO.out _).mono ?_; rintro e w1 ⟨rfl, hq⟩; obtain rfl := hq.symm)
        go_roundw
        case rel => exact ⟨k + 1, by omega, by go_num, fun q hq => by (by_cases e : q < k); exact HK.out q e; (cases (show q = k by omega)); exact HE.out, trivial⟩
        case measure => simp [intOf]; omega
      · have he2 : (g k != 0) = true := by simp [he]
        rw [he2] at SO
        have HE := hide he
        clear he he2
        go_wp2_with (go_at_call 103; refine (SO.out _).mono ?_; rintro e w1 ⟨rfl, hq⟩; obtain rfl := hq.symm)
        go_ret
        exact ⟨⟨_, rfl, by constructor; intro h1; exact absurd h1 (by omega); intro h1; exact absurd (h1 k hlt) HE.out⟩, rfl⟩
    · have hkn : ¬ (k : Int) < (n : Int) := by omega
      go_wp2
      go_ret
      exact ⟨⟨_, rfl, by constructor; intro _ q hq; exact HK.out q (by omega); intro _; omega⟩, rfl⟩
set_option maxHeartbeats 1000000 in
theorem containsFunc_ok {w : World} {B : Nat} {ao : Option Addr} {n cap : Nat} {g : Nat → Int} (h : Sees w B ao n g) (hn : n ≤ 70000) :
    Calls Tryz.prog 102 #[.slice ao n cap, .func (.func 103) #[] #[]] w fun e w' => (∃ v, e = .returned (.bool v) ∧ (v = false ↔ ∀ q, q < n → g q = 0)) ∧ w' = w := by
  have IO := hide (indexFunc_ok (cap := cap) h hn)
  clear h
  go_enter Tryz.func102, Tryz.ntmps102
  go_wp2_with (go_at_call 105; refine IO.out.mono ?_; rintro e w1 ⟨⟨v, rfl, hv⟩, rfl⟩; have HV := hide hv; clear hv)
  go_ret
  refine ⟨⟨_, rfl, ?_⟩, rfl⟩
  have := HV.out
  rw [← this]
  simp
theorem obox (w : World) (u l fi ta : Bool) (ag ge lk nx : Int) (ao : Option Addr) (n cap : Nat) : ∃ W0, w.alloc (.cells #[.bool u, .bool l, .bool fi, .bool ta, .int .i64 ag, .int .u64 ge, .int .u64 lk, .int .u64 nx, .slice ao n cap] 46) = W0 ∧ Below w.heap.size w W0 ∧ W0.rowIs w.heap.size 46 9 (lrow [.bool u, .bool l, .bool fi, .bool ta, .int .i64 ag, .int .u64 ge, .int .u64 lk, .int .u64 nx, .slice ao n cap]) := ⟨_, rfl, (Below.refl _ w).alloc (Nat.le_refl _) _, rowL_alloc w [.bool u, .bool l, .bool fi, .bool ta, .int .i64 ag, .int .u64 ge, .int .u64 lk, .int .u64 nx, .slice ao n cap] _ rfl⟩
set_option maxHeartbeats 1000000 in
theorem usedSound_ok {u l fi ta : Bool} {ag ge lk nx : Int} {ao : Option Addr} {n cap : Nat} {q : Bool} (w : World) : Calls Tryz.prog 91 #[.agg #[.bool u, .bool l, .bool fi, .bool ta, .int .i64 ag, .int .u64 ge, .int .u64 lk, .int .u64 nx, .slice ao n cap], .bool q] w fun e w' => e = .returned (.bool (l && !q)) ∧ Below w.heap.size w w' := by
  obtain ⟨W0, hW0, B0, R0⟩ := obox w u l fi ta ag ge lk nx ao n cap
  have c1 := R0.cell (i := 1) (by decide)
  simp only [lrow] at c1
  have HB := hide B0
  clear R0 B0
  cases l
  · go_enter Tryz.func91, Tryz.ntmps91
    go_wp2
    go_ret
    exact ⟨rfl, HB.out⟩
  · go_enter Tryz.func91, Tryz.ntmps91
    go_wp2
    go_ret
    exact ⟨by simp, HB.out⟩
set_option maxHeartbeats 1000000 in
theorem unusedSound_ok {u l fi ta : Bool} {ag ge lk nx : Int} {ao : Option Addr} {n cap : Nat} {q : Bool} {g : Nat → Int} {w : World} (hS : Sees w w.heap.size ao n g) (hn : n ≤ 70000) : Calls Tryz.prog 92 #[.agg #[.bool u, .bool l, .bool fi, .bool ta, .int .i64 ag, .int .u64 ge, .int .u64 lk, .int .u64 nx, .slice ao n cap], .bool q] w fun e w' => (∃ v, e = .returned (.bool v) ∧ (v = true ↔ (q = true ∨ ge = 4294967295) ∧ ∀ i, i < n → g i = 0)) ∧ Below w.heap.size w w' := by
  obtain ⟨W0, hW0, B0, R0⟩ := obox w u l fi ta ag ge lk nx ao n cap
  have c5 := R0.cell (i := 5) (by decide)
  have c8 := R0.cell (i := 8) (by decide)
  simp only [lrow] at c5 c8
  have CF := hide (containsFunc_ok (w := W0) (cap := cap) (sees_on hS B0) hn)
  have HB := hide B0
  clear R0 B0 hS
  cases q
  · by_cases hg : ge = 4294967295
    · subst hg
      go_enter Tryz.func92, Tryz.ntmps92
      go_wp2_with (go_at_call 102; refine CF.out.mono ?_; rintro e w1 ⟨⟨v, rfl, hv⟩, hq⟩; obtain rfl := hq.symm; have HV := hide hv; clear hv)
      go_ret
      exact ⟨⟨_, rfl, by have := HV.out; cases v <;> simp_all⟩, HB.out⟩
    · have hg2 : (ge == 4294967295) = false := by simp [hg]
      go_enter Tryz.func92, Tryz.ntmps92
      go_wp2_with fail
      go_ret
      exact ⟨⟨_, rfl, by simp [hg]⟩, HB.out⟩
  · go_enter Tryz.func92, Tryz.ntmps92
    go_wp2_with (go_at_call 102; refine CF.out.mono ?_; rintro e w1 ⟨⟨v, rfl, hv⟩, hq⟩; obtain rfl := hq.symm; have HV := hide hv; clear hv)
    go_ret
    exact ⟨⟨_, rfl, by have := HV.out; cases v <;> simp_all⟩, HB.out⟩
end Vw
end Go.Proofs.YtecjegjnnahddaaGreat

/-
  View: what is sound: the objects, the queue, a handle
-/
namespace Go.Proofs.YtecjegjnnahddaaGreat
open Go.RowKit
set_option linter.unusedVariables false
set_option linter.unusedSimpArgs false
set_option linter.unnecessarySimpa false
set_option maxRecDepth 20000
namespace Vw
open Shape

/-- A bool that tells whether something holds. -/
def Tells (e : Ending) (p : Prop) : Prop := ∃ v, e = .returned (.bool v) ∧ (v = true ↔ p)
theorem Tells.yes {p : Prop} (h : p) : Tells (.returned (.bool true)) p := ⟨true, rfl, by simp [h]⟩
theorem Tells.no {p : Prop} (h : ¬ p) : Tells (.returned (.bool false)) p := ⟨false, rfl, by simp [h]⟩
theorem Tells.get {e : Ending} {p : Prop} (h : Tells e p) : (p ∧ e = .returned (.bool true)) ∨ (¬ p ∧ e = .returned (.bool false)) := by
  obtain ⟨v, rfl, hv⟩ := h
  cases v
  · exact .inr ⟨fun h => (by have := hv.2 h; cases this), rfl⟩
  · exact .inl ⟨hv.1 rfl, rfl⟩
theorem vbox (w : World) (c : Cv) (a : Av) : ∃ W0, w.alloc (.cells #[.int .i64 c.ph, .int .i64 c.co, .int .u64 c.ro, .slice a.aa c.na a.ca, .slice a.ra c.nr a.cr, .slice a.wa c.nw a.cw, .slice a.oa c.no a.cb, .slice a.fa c.fr.length a.cf, .slice a.ga c.gr.length a.cg, .slice a.qa c.qu.length a.cq, .int .u64 (c.cn 0), .int .u64 (c.cn 1), .int .u64 (c.cn 2), .int .u64 (c.cn 3)] 31) = W0 ∧ Below w.heap.size w W0 ∧ W0.rowIs w.heap.size 31 14 (lrow [.int .i64 c.ph, .int .i64 c.co, .int .u64 c.ro, .slice a.aa c.na a.ca, .slice a.ra c.nr a.cr, .slice a.wa c.nw a.cw, .slice a.oa c.no a.cb, .slice a.fa c.fr.length a.cf, .slice a.ga c.gr.length a.cg, .slice a.qa c.qu.length a.cq, .int .u64 (c.cn 0), .int .u64 (c.cn 1), .int .u64 (c.cn 2), .int .u64 (c.cn 3)]) := ⟨_, rfl, (Below.refl _ w).alloc (Nat.le_refl _) _, rowL_alloc w [.int .i64 c.ph, .int .i64 c.co, .int .u64 c.ro, .slice a.aa c.na a.ca, .slice a.ra c.nr a.cr, .slice a.wa c.nw a.cw, .slice a.oa c.no a.cb, .slice a.fa c.fr.length a.cf, .slice a.ga c.gr.length a.cg, .slice a.qa c.qu.length a.cq, .int .u64 (c.cn 0), .int .u64 (c.cn 1), .int .u64 (c.cn 2), .int .u64 (c.cn 3)] _ rfl⟩

set_option maxHeartbeats 2000000 in
theorem objectsSound_ok {c : Cv} {a : Av} {w : World} (hS : Shows w c a) (hc : c.Ok) : Calls Tryz.prog 69 #[vl c a] w fun e w' => Tells e (∀ j, j < c.no → obOk c j) ∧ Below w.heap.size w w' := by
  obtain ⟨aa, ca, ra, cr, wa, cw, oa, cb, fa, cf, ga, cg, qa, cq⟩ := a
  simp only [vl]
  have HS := hide hS
  have HC := hide hc
  have hno := hc.no
  clear hS hc
  obtain ⟨W0, hW0, B0, R0⟩ := vbox w c ⟨aa, ca, ra, cr, wa, cw, oa, cb, fa, cf, ga, cg, qa, cq⟩
  simp only at hW0 R0
  have HB := hide B0
  have HR := hide R0
  have l0 : w.heap.size < W0.heap.size := R0.lt
  have c6 := R0.cell (i := 6) (by decide)
  simp only [lrow] at c6
  clear B0 R0
  go_enter Tryz.func69, Tryz.ntmps69
  go_wp2_with fail
  go_loopw [9] (fun i wr => ∃ k : Nat, k ≤ c.no ∧ i = .int .i64 k ∧ Hid (∀ j, j < k → obOk c j) ∧ Hid (Below W0.heap.size W0 wr)) (fun i _ => c.no - (intOf i).toNat)
  case atStart => exact ⟨0, Nat.zero_le _, rfl, fun q hq => absurd hq (by omega), Below.refl _ _⟩
  case round =>
    obtain ⟨k, hk, rfl, HK, HW⟩ := hrel
    have HBr := hide (HB.out.trans (HW.out.mono HB.out.size))
    clear c6
    by_cases hlt : k < c.no
    · have hkn : (k : Int) < (c.no : Int) := by omega
      have Sw := HS.out.below HBr.out
      obtain ⟨b, off, ai, ci, hoa, hbl, hoc, hse⟩ := Sw.ob k hlt
      simp only at hoa
      subst hoa
      cases hobx : c.ob k with
      | mk us li fi ta ag ge lk nx ns sl =>
      have hns := HC.out.ns k hlt
      have HOB := hide hobx
      simp only [hobx] at hoc hse hns
      simp only [Ob.cell] at hoc
      have o0 : wr.cell? ⟨b, off + k * 9, none⟩ = some (.bool us) := by simpa using hoc 0 (by decide)
      have o1 : wr.cell? ⟨b, off + k * 9 + 1, none⟩ = some (.bool li) := by simpa using hoc 1 (by decide)
      have o2 : wr.cell? ⟨b, off + k * 9 + 2, none⟩ = some (.bool fi) := by simpa using hoc 2 (by decide)
      have o3 : wr.cell? ⟨b, off + k * 9 + 3, none⟩ = some (.bool ta) := by simpa using hoc 3 (by decide)
      have o4 : wr.cell? ⟨b, off + k * 9 + 4, none⟩ = some (.int .i64 ag) := by simpa using hoc 4 (by decide)
      have o5 : wr.cell? ⟨b, off + k * 9 + 5, none⟩ = some (.int .u64 ge) := by simpa using hoc 5 (by decide)
      have o6 : wr.cell? ⟨b, off + k * 9 + 6, none⟩ = some (.int .u64 lk) := by simpa using hoc 6 (by decide)
      have o7 : wr.cell? ⟨b, off + k * 9 + 7, none⟩ = some (.int .u64 nx) := by simpa using hoc 7 (by decide)
      have o8 : wr.cell? ⟨b, off + k * 9 + 8, none⟩ = some (.slice ai ns ci) := by simpa using hoc 8 (by decide)

      have HSE := hide hse
      clear hobx hoc hse Sw
      go_upto_region 4 with (fail)
      obtain ⟨W4, hW4, B4, R4⟩ := obox wr us li fi ta ag ge lk nx ai ns ci
      have HB4 := hide (HW.out.trans (B4.mono HW.out.size))
      have HBw := hide (HB.out.trans (HB4.out.mono HB.out.size))
      have p0 : W4.cell? ⟨wr.heap.size, 0, none⟩ = some (.bool us) := R4.cell (i := 0) (by decide)
      have p1 : W4.cell? ⟨wr.heap.size, 1, none⟩ = some (.bool li) := R4.cell (i := 1) (by decide)
      have p2 : W4.cell? ⟨wr.heap.size, 2, none⟩ = some (.bool fi) := R4.cell (i := 2) (by decide)
      have p3 : W4.cell? ⟨wr.heap.size, 3, none⟩ = some (.bool ta) := R4.cell (i := 3) (by decide)
      have p4 : W4.cell? ⟨wr.heap.size, 4, none⟩ = some (.int .i64 ag) := R4.cell (i := 4) (by decide)
      have p5 : W4.cell? ⟨wr.heap.size, 5, none⟩ = some (.int .u64 ge) := R4.cell (i := 5) (by decide)
      have p6 : W4.cell? ⟨wr.heap.size, 6, none⟩ = some (.int .u64 lk) := R4.cell (i := 6) (by decide)
      have p7 : W4.cell? ⟨wr.heap.size, 7, none⟩ = some (.int .u64 nx) := R4.cell (i := 7) (by decide)
      have p8 : W4.cell? ⟨wr.heap.size, 8, none⟩ = some (.slice ai ns ci) := R4.cell (i := 8) (by decide)
      have c7 : W4.cell? ⟨w.heap.size, 7, none⟩ = some (.slice fa c.fr.length cf) := (row_on HR.out HB4.out).cell (i := 7) (by decide)
      have SE4 := hide (sees_on HSE.out B4)
      have CO := hide (contains_ok (w := W4) (cap := cf) (c := (k : Int) + 1) (HS.out.below HBw.out).fr rfl HC.out.fr)
      obtain ⟨q, hq⟩ : ∃ q, decide (((k : Int) + 1) ∈ c.fr) = q := ⟨_, rfl⟩
      rw [hq] at CO
      have HQ := hide hq
      simp only [hW4]
      have hl4 : wr.heap.size < W4.heap.size := R4.lt
      clear hW4 o0 o1 o2 o3 o4 o5 o6 o7 o8 hq R4 B4
      go_upto_region 5 with (go_at_call 90; refine CO.out.mono ?_; rintro e w1 ⟨rfl, hq⟩; obtain rfl := hq.symm; clear hq)
      cases us
      · have UN := hide (unusedSound_ok (u := false) (l := li) (fi := fi) (ta := ta) (ag := ag) (ge := ge) (lk := lk) (nx := nx) (cap := ci) (q := q) SE4.out hns)
        obtain ⟨CC, hCC⟩ : ∃ C : Prop, ((q = true ∨ ge = 4294967295) ∧ ∀ i, i < ns → sl i = 0) = C := ⟨_, rfl⟩
        rw [hCC] at UN
        have HCC := hide hCC
        clear hCC
        have IFF := hide (show obOk c k ↔ CC by
          rw [← HCC.out]
          unfold obOk
          rw [HOB.out]
          constructor
          · intro h2
            have h3 := h2.2 rfl
            exact ⟨h3.1.imp (fun h4 => by rw [← HQ.out]; simpa using h4) id, h3.2⟩
          · intro h2
            exact ⟨fun h3 => (by cases h3), fun _ => ⟨h2.1.imp (fun h4 => by rw [← HQ.out] at h4; simpa using h4) id, h2.2⟩⟩)
        by_cases hcc : CC
        · have UN2 := hide (show Calls Tryz.prog 92 #[.agg #[.bool false, .bool li, .bool fi, .bool ta, .int .i64 ag, .int .u64 ge, .int .u64 lk, .int .u64 nx, .slice ai ns ci], .bool q] W4 fun e w' => e = .returned (.bool true) ∧ Below W4.heap.size W4 w' from UN.out.mono (by rintro e w' ⟨⟨v, rfl, hv⟩, hb⟩; rw [hv.2 hcc]; exact ⟨rfl, hb⟩))
          have OKK := hide (IFF.out.2 hcc)
          clear hcc UN
          go_wp2_with (go_at_call 92; refine UN2.out.mono ?_; rintro e w2 ⟨rfl, hb2⟩; have HB5 := hide (HB4.out.trans (hb2.mono HB4.out.size)); clear hb2)
          go_roundw
          case rel => exact ⟨k + 1, by omega, by go_num, fun j hj => by (by_cases e : j < k); exact HK.out j e; (cases (show j = k by omega)); exact OKK.out, HB5.out⟩
          case measure => simp [intOf]; omega
        · have UN2 := hide (show Calls Tryz.prog 92 #[.agg #[.bool false, .bool li, .bool fi, .bool ta, .int .i64 ag, .int .u64 ge, .int .u64 lk, .int .u64 nx, .slice ai ns ci], .bool q] W4 fun e w' => e = .returned (.bool false) ∧ Below W4.heap.size W4 w' from UN.out.mono (by rintro e w' ⟨⟨v, rfl, hv⟩, hb⟩; rw [show v = false from by cases v; rfl; exact absurd (hv.1 rfl) hcc]; exact ⟨rfl, hb⟩))
          have OKK := hide (fun h1 => hcc (IFF.out.1 h1))
          clear hcc UN
          go_wp2_with (go_at_call 92; refine UN2.out.mono ?_; rintro e w2 ⟨rfl, hb2⟩; have HB5 := hide (HB4.out.trans (hb2.mono HB4.out.size)); clear hb2)
          go_ret
          exact ⟨Tells.no (fun h1 => OKK.out (h1 k hlt)), HB.out.trans (HB5.out.mono HB.out.size)⟩
      · have UN := hide (usedSound_ok (u := true) (l := li) (fi := fi) (ta := ta) (ag := ag) (ge := ge) (lk := lk) (nx := nx) (ao := ai) (n := ns) (cap := ci) (q := q) W4)
        obtain ⟨v, hv⟩ : ∃ v, (li && !q) = v := ⟨_, rfl⟩
        rw [hv] at UN
        have IFF := hide (show obOk c k ↔ v = true by
          rw [← hv]
          unfold obOk
          rw [HOB.out]
          have h1 := HQ.out
          constructor
          · intro h2
            have h3 := h2.1 rfl
            have h4 : q = false := by rw [← h1]; simpa using h3.2
            simp [h4]
            exact h3.1
          · intro h2
            simp only [Bool.and_eq_true, Bool.not_eq_true'] at h2
            refine ⟨fun _ => ⟨h2.1, ?_⟩, fun h3 => (by cases h3)⟩
            have h4 := h2.2
            rw [← h1] at h4
            simpa using h4)
        clear hv
        cases v
        · go_wp2_with (go_at_call 91; refine UN.out.mono ?_; rintro e w2 ⟨rfl, hb2⟩; have HB5 := hide (HB4.out.trans (hb2.mono HB4.out.size)); clear hb2)
          go_ret
          exact ⟨Tells.no (fun h1 => absurd (IFF.out.1 (h1 k hlt)) (by simp)), HB.out.trans (HB5.out.mono HB.out.size)⟩
        · have EX := hide (show True from trivial)
          go_wp2_with (go_at_call 91; refine UN.out.mono ?_; rintro e w2 ⟨rfl, hb2⟩; have HB5 := hide (HB4.out.trans (hb2.mono HB4.out.size)); have q0 : w2.cell? ⟨wr.heap.size, 0, none⟩ = some (.bool true) := (hb2.cell (p := ⟨wr.heap.size, 0, none⟩) hl4).trans p0; clear hb2)
          go_roundw
          case rel => exact ⟨k + 1, by omega, by go_num, fun j hj => by (by_cases e : j < k); exact HK.out j e; (cases (show j = k by omega)); exact IFF.out.2 (by simp), HB5.out⟩
          case measure => simp [intOf]; omega
    · have hkn : ¬ (k : Int) < (c.no : Int) := by omega
      have ALL := hide (show ∀ j, j < c.no → obOk c j from fun j hj => HK.out j (by omega))
      go_wp2_with fail
      go_ret
      exact ⟨Tells.yes ALL.out, HBr.out⟩

set_option maxHeartbeats 2000000 in
theorem queueSound_ok {c : Cv} {a : Av} {w : World} (hS : Shows w c a) (hc : c.Ok) : Calls Tryz.prog 70 #[vl c a] w fun e w' => Tells e (∀ i, i ∈ c.qu → quOk c i) ∧ Below w.heap.size w w' := by
  obtain ⟨aa, ca, ra, cr, wa, cw, oa, cb, fa, cf, ga, cg, qa, cq⟩ := a
  simp only [vl]
  have HS := hide hS
  have HC := hide hc
  have hno := hc.no
  have hqu := hc.qu
  obtain ⟨n, hn⟩ : ∃ n, c.qu.length = n := ⟨_, rfl⟩
  have HN := hide hn
  clear hS hc
  obtain ⟨W0, hW0, B0, R0⟩ := vbox w c ⟨aa, ca, ra, cr, wa, cw, oa, cb, fa, cf, ga, cg, qa, cq⟩
  simp only at hW0 R0
  rw [hn] at hqu hW0 R0
  rw [hn]
  have HB := hide B0
  have HR := hide R0
  have l0 : w.heap.size < W0.heap.size := R0.lt
  have c9 : W0.cell? ⟨w.heap.size, 9, none⟩ = some (.slice qa n cq) := R0.cell (i := 9) (by decide)
  clear B0 R0 hn
  go_enter Tryz.func70, Tryz.ntmps70
  go_wp2_with fail
  go_loopw [9] (fun i wr => ∃ t : Nat, t ≤ n ∧ i = .int .i64 t ∧ Hid (∀ x, x ∈ c.qu.take t → quOk c x) ∧ Hid (Below W0.heap.size W0 wr)) (fun i _ => n - (intOf i).toNat)
  case atStart => exact ⟨0, Nat.zero_le _, rfl, show ∀ x, x ∈ _ → _ by simp, Below.refl _ _⟩
  case round =>
    obtain ⟨t, ht, rfl, HK, HW⟩ := hrel
    have HBr := hide (HB.out.trans (HW.out.mono HB.out.size))
    clear c9
    by_cases hlt : t < n
    · have hkn : (t : Int) < (n : Int) := by omega
      obtain ⟨x, hx⟩ : ∃ x, c.qu[t]? = some x := ⟨c.qu[t]'(by rw [HN.out]; exact hlt), List.getElem?_eq_getElem _⟩
      have Sw := HS.out.below HBr.out
      obtain ⟨bq, oq, hqa, hbq, hcq⟩ := Sw.qu t x hx
      simp only at hqa
      subst hqa
      have HX := hide hx
      have hxr := HC.out.qr x (List.mem_of_getElem? hx)
      obtain ⟨k, rfl⟩ : ∃ k : Nat, x = (k : Int) + 1 := ⟨x.toNat - 1, by omega⟩
      have hko : k < c.no := by omega
      have hko2 : (k : Int) < (c.no : Int) := by omega
      obtain ⟨b, off, ai, ci, hoa, hbl, hoc, hse⟩ := Sw.ob k hko
      simp only at hoa
      subst hoa
      cases hobx : c.ob k with
      | mk us li fi ta ag ge lk nx ns sl =>
      have HOB := hide hobx
      simp only [hobx] at hoc
      simp only [Ob.cell] at hoc
      have o0 : wr.cell? ⟨b, off + k * 9, none⟩ = some (.bool us) := by simpa using hoc 0 (by decide)
      have o1 : wr.cell? ⟨b, off + k * 9 + 1, none⟩ = some (.bool li) := by simpa using hoc 1 (by decide)
      have o2 : wr.cell? ⟨b, off + k * 9 + 2, none⟩ = some (.bool fi) := by simpa using hoc 2 (by decide)
      have o3 : wr.cell? ⟨b, off + k * 9 + 3, none⟩ = some (.bool ta) := by simpa using hoc 3 (by decide)
      have o4 : wr.cell? ⟨b, off + k * 9 + 4, none⟩ = some (.int .i64 ag) := by simpa using hoc 4 (by decide)
      have o5 : wr.cell? ⟨b, off + k * 9 + 5, none⟩ = some (.int .u64 ge) := by simpa using hoc 5 (by decide)
      have o6 : wr.cell? ⟨b, off + k * 9 + 6, none⟩ = some (.int .u64 lk) := by simpa using hoc 6 (by decide)
      have o7 : wr.cell? ⟨b, off + k * 9 + 7, none⟩ = some (.int .u64 nx) := by simpa using hoc 7 (by decide)
      have o8 : wr.cell? ⟨b, off + k * 9 + 8, none⟩ = some (.slice ai ns ci) := by simpa using hoc 8 (by decide)

      have c6 : wr.cell? ⟨w.heap.size, 6, none⟩ = some (.slice (some ⟨b, off, none⟩) c.no cb) := (row_on HR.out HW.out).cell (i := 6) (by decide)
      have IFF := hide (show quOk c ((k : Int) + 1) ↔ us = true ∧ fi = true ∧ ta = true by
        unfold quOk
        rw [show ((k : Int) + 1).toNat - 1 = k by omega, HOB.out])
      clear hobx hoc hse Sw hx
      go_upto_region 5 with (fail)
      obtain ⟨W4, hW4, B4, R4⟩ := obox wr us li fi ta ag ge lk nx ai ns ci
      have HB4 := hide (HW.out.trans (B4.mono HW.out.size))
      have p0 : W4.cell? ⟨wr.heap.size, 0, none⟩ = some (.bool us) := R4.cell (i := 0) (by decide)
      have p1 : W4.cell? ⟨wr.heap.size, 1, none⟩ = some (.bool li) := R4.cell (i := 1) (by decide)
      have p2 : W4.cell? ⟨wr.heap.size, 2, none⟩ = some (.bool fi) := R4.cell (i := 2) (by decide)
      have p3 : W4.cell? ⟨wr.heap.size, 3, none⟩ = some (.bool ta) := R4.cell (i := 3) (by decide)
      have p4 : W4.cell? ⟨wr.heap.size, 4, none⟩ = some (.int .i64 ag) := R4.cell (i := 4) (by decide)
      have p5 : W4.cell? ⟨wr.heap.size, 5, none⟩ = some (.int .u64 ge) := R4.cell (i := 5) (by decide)
      have p6 : W4.cell? ⟨wr.heap.size, 6, none⟩ = some (.int .u64 lk) := R4.cell (i := 6) (by decide)
      have p7 : W4.cell? ⟨wr.heap.size, 7, none⟩ = some (.int .u64 nx) := R4.cell (i := 7) (by decide)
      have p8 : W4.cell? ⟨wr.heap.size, 8, none⟩ = some (.slice ai ns ci) := R4.cell (i := 8) (by decide)
      simp only [hW4]
      clear hW4 o0 o1 o2 o3 o4 o5 o6 o7 o8 c6 R4 B4 hcq
      have NO := hide (show ¬ (us = true ∧ fi = true ∧ ta = true) → ¬ ∀ i, i ∈ c.qu → quOk c i from fun h1 h2 => h1 (IFF.out.1 (h2 _ (List.mem_of_getElem? HX.out))))
      cases us
      · go_wp2_with fail
        go_ret
        have NO2 := NO.out (by simp)
        exact ⟨Tells.no NO2, HB.out.trans (HB4.out.mono HB.out.size)⟩
      · cases fi
        · go_wp2_with fail
          go_ret
          have NO2 := NO.out (by simp)
          exact ⟨Tells.no NO2, HB.out.trans (HB4.out.mono HB.out.size)⟩
        · cases ta
          · go_wp2_with fail
            go_ret
            have NO2 := NO.out (by simp)
            exact ⟨Tells.no NO2, HB.out.trans (HB4.out.mono HB.out.size)⟩
          · have YES := hide (IFF.out.2 ⟨rfl, rfl, rfl⟩)
            clear IFF NO
            go_wp2_with fail
            go_roundw
            case rel =>
              refine ⟨t + 1, by omega, by go_num, ?_, HB4.out⟩
              intro y hy
              rw [List.take_add_one, HX.out] at hy
              simp at hy
              rcases hy with hy | hy
              · exact HK.out y hy
              · rw [hy]; exact YES.out
            case measure => simp [intOf]; omega
    · have hkn : ¬ (t : Int) < (n : Int) := by omega
      have ALL := hide (show ∀ i, i ∈ c.qu → quOk c i from fun i hi => HK.out i (by rw [List.take_of_length_le (by rw [HN.out]; omega)]; exact hi))
      go_wp2_with fail
      go_ret
      exact ⟨Tells.yes ALL.out, HBr.out⟩
end Vw
end Go.Proofs.YtecjegjnnahddaaGreat
