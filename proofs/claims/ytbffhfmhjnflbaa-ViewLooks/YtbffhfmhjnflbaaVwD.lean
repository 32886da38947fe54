/-
  View: the package's three lists, an object as it is seen, a memory of a shape and words.
-/
import Derived.Test.YtbffhfmhjnflbaaVwC
namespace Go.Proofs.Ytbffhfmhjnflbaa
open Go.RowKit
set_option linter.unusedVariables false
set_option linter.unusedSimpArgs false
set_option linter.unnecessarySimpa false
set_option maxRecDepth 20000
namespace Vw
open Shape

set_option maxHeartbeats 1000000 in
theorem free_ok {o s h r k b off z cap : Nat} {s5 : Int} {B : Nat} {f : Nat → Int} (H : (⟨o, s, h, r, k⟩ : Sh).Ok) (hz : size ⟨o, s, h, r, k⟩ = z) (hc : z ≤ cap) {w : World} (hS : Sees w B (some ⟨b, off, none⟩) z f) (hB : B ≤ w.heap.size) (hf : ∀ i, i < z → 0 ≤ f i ∧ f i < 18446744073709551616) :
    Calls Try.prog 56 #[.agg #[.int .i64 (o : Int), .int .i64 (s : Int), .int .i64 (h : Int), .int .i64 (r : Int), .int .i64 (k : Int), .int .i64 s5, .slice (some ⟨b, off, none⟩) z cap]] w fun e w' => (∃ fa cf, e = .returned (.tuple #[.slice fa (lst ⟨o, s, h, r, k⟩ f 1 1).1.length cf, .int .i64 (lst ⟨o, s, h, r, k⟩ f 1 1).2]) ∧ Hid (w'.ownsRow w.heap.size 3 1 (.slice fa (lst ⟨o, s, h, r, k⟩ f 1 1).1.length cf) (lst ⟨o, s, h, r, k⟩ f 1 1).1.length (ncs (lst ⟨o, s, h, r, k⟩ f 1 1).1))) ∧ Below w.heap.size w w' := by
  obtain ⟨W0, hW0, B0, K⟩ := mbox w o s h r k b off z cap s5
  have HB := hide B0
  have LO := hide (list_ok (b := b) (off := off) (s5 := s5) (at' := 1) (over := 1) H hz hc (by decide) (by decide) (w := W0) (hS.below B0 hB) (by have := B0.size; omega) hf)
  simp only [show ((1 : Nat) : Int) = 1 from rfl, show ((2 : Nat) : Int) = 2 from rfl, show ((3 : Nat) : Int) = 3 from rfl] at LO
  obtain ⟨R, hR⟩ : ∃ R, lst ⟨o, s, h, r, k⟩ f 1 1 = R := ⟨_, rfl⟩
  rw [hR] at LO ⊢
  clear hR H hz hS hB hf
  obtain ⟨-, l0, x0, x1, x2, x3, x4, x5, x6⟩ := K.out W0 (Below.refl _ _)
  clear B0
  go_enter Try.func56, Try.ntmps56
  go_wp2_with (go_at_call 85; refine LO.out.mono ?_; rintro e w1 ⟨⟨fa, cf, rfl, HO⟩, hb1⟩; have HB1 := hide hb1; clear hb1)
  go_ret2
  exact ⟨⟨fa, cf, rfl, owns_low HO.out HB.out.size⟩, (K.out _ HB1.out).1⟩

set_option maxHeartbeats 1000000 in
theorem grey_ok {o s h r k b off z cap : Nat} {s5 : Int} {B : Nat} {f : Nat → Int} (H : (⟨o, s, h, r, k⟩ : Sh).Ok) (hz : size ⟨o, s, h, r, k⟩ = z) (hc : z ≤ cap) {w : World} (hS : Sees w B (some ⟨b, off, none⟩) z f) (hB : B ≤ w.heap.size) (hf : ∀ i, i < z → 0 ≤ f i ∧ f i < 18446744073709551616) :
    Calls Try.prog 57 #[.agg #[.int .i64 (o : Int), .int .i64 (s : Int), .int .i64 (h : Int), .int .i64 (r : Int), .int .i64 (k : Int), .int .i64 s5, .slice (some ⟨b, off, none⟩) z cap]] w fun e w' => (∃ fa cf, e = .returned (.tuple #[.slice fa (lst ⟨o, s, h, r, k⟩ f 2 1).1.length cf, .int .i64 (lst ⟨o, s, h, r, k⟩ f 2 1).2]) ∧ Hid (w'.ownsRow w.heap.size 3 1 (.slice fa (lst ⟨o, s, h, r, k⟩ f 2 1).1.length cf) (lst ⟨o, s, h, r, k⟩ f 2 1).1.length (ncs (lst ⟨o, s, h, r, k⟩ f 2 1).1))) ∧ Below w.heap.size w w' := by
  obtain ⟨W0, hW0, B0, K⟩ := mbox w o s h r k b off z cap s5
  have HB := hide B0
  have LO := hide (list_ok (b := b) (off := off) (s5 := s5) (at' := 2) (over := 1) H hz hc (by decide) (by decide) (w := W0) (hS.below B0 hB) (by have := B0.size; omega) hf)
  simp only [show ((1 : Nat) : Int) = 1 from rfl, show ((2 : Nat) : Int) = 2 from rfl, show ((3 : Nat) : Int) = 3 from rfl] at LO
  obtain ⟨R, hR⟩ : ∃ R, lst ⟨o, s, h, r, k⟩ f 2 1 = R := ⟨_, rfl⟩
  rw [hR] at LO ⊢
  clear hR H hz hS hB hf
  obtain ⟨-, l0, x0, x1, x2, x3, x4, x5, x6⟩ := K.out W0 (Below.refl _ _)
  clear B0
  go_enter Try.func57, Try.ntmps57
  go_wp2_with (go_at_call 85; refine LO.out.mono ?_; rintro e w1 ⟨⟨fa, cf, rfl, HO⟩, hb1⟩; have HB1 := hide hb1; clear hb1)
  go_ret2
  exact ⟨⟨fa, cf, rfl, owns_low HO.out HB.out.size⟩, (K.out _ HB1.out).1⟩

set_option maxHeartbeats 1000000 in
theorem queue_ok {o s h r k b off z cap : Nat} {s5 : Int} {B : Nat} {f : Nat → Int} (H : (⟨o, s, h, r, k⟩ : Sh).Ok) (hz : size ⟨o, s, h, r, k⟩ = z) (hc : z ≤ cap) {w : World} (hS : Sees w B (some ⟨b, off, none⟩) z f) (hB : B ≤ w.heap.size) (hf : ∀ i, i < z → 0 ≤ f i ∧ f i < 18446744073709551616) :
    Calls Try.prog 58 #[.agg #[.int .i64 (o : Int), .int .i64 (s : Int), .int .i64 (h : Int), .int .i64 (r : Int), .int .i64 (k : Int), .int .i64 s5, .slice (some ⟨b, off, none⟩) z cap]] w fun e w' => (∃ fa cf, e = .returned (.tuple #[.slice fa (lst ⟨o, s, h, r, k⟩ f 3 2).1.length cf, .int .i64 (lst ⟨o, s, h, r, k⟩ f 3 2).2]) ∧ Hid (w'.ownsRow w.heap.size 3 1 (.slice fa (lst ⟨o, s, h, r, k⟩ f 3 2).1.length cf) (lst ⟨o, s, h, r, k⟩ f 3 2).1.length (ncs (lst ⟨o, s, h, r, k⟩ f 3 2).1))) ∧ Below w.heap.size w w' := by
  obtain ⟨W0, hW0, B0, K⟩ := mbox w o s h r k b off z cap s5
  have HB := hide B0
  have LO := hide (list_ok (b := b) (off := off) (s5 := s5) (at' := 3) (over := 2) H hz hc (by decide) (by decide) (w := W0) (hS.below B0 hB) (by have := B0.size; omega) hf)
  simp only [show ((1 : Nat) : Int) = 1 from rfl, show ((2 : Nat) : Int) = 2 from rfl, show ((3 : Nat) : Int) = 3 from rfl] at LO
  obtain ⟨R, hR⟩ : ∃ R, lst ⟨o, s, h, r, k⟩ f 3 2 = R := ⟨_, rfl⟩
  rw [hR] at LO ⊢
  clear hR H hz hS hB hf
  obtain ⟨-, l0, x0, x1, x2, x3, x4, x5, x6⟩ := K.out W0 (Below.refl _ _)
  clear B0
  go_enter Try.func58, Try.ntmps58
  go_wp2_with (go_at_call 85; refine LO.out.mono ?_; rintro e w1 ⟨⟨fa, cf, rfl, HO⟩, hb1⟩; have HB1 := hide hb1; clear hb1)
  go_ret2
  exact ⟨⟨fa, cf, rfl, owns_low HO.out HB.out.size⟩, (K.out _ HB1.out).1⟩

theorem owns_set {w : World} {base : Nat} {e : TypeId} {size : Nat} {v : Value} {n : Nat} {xs : List Value} (h : w.ownsRow base e size v n xs) {a : Addr} (ha : a.block < base) (u : Value) : (w.setCell a u).ownsRow base e size v n xs := owns_keep h (fun b hb hl => Below.heap_setCell _ _ _ _ (by omega))
set_option maxHeartbeats 2000000 in
theorem objectOf_ok {b off s cap B : Nat} {g : Nat → Int} {co : Int} {w : World} (hs : s ≤ 4) (hc : 3 + s ≤ cap) (hS : Sees w B (some ⟨b, off, none⟩) (3 + s) g) (hB : B ≤ w.heap.size) (h0 : 0 ≤ g 0) (h1 : g 0 < 18446744073709551616) :
    Calls Try.prog 54 #[.slice (some ⟨b, off, none⟩) (3 + s) cap, .int .i64 co] w fun e w' => (∃ ai ci, e = .returned (.agg #[.bool (hasB (g 0) 1), .bool (numB (g 0) 2 == co), .bool (hasB (g 0) 4), .bool (hasB (g 0) 8), .int .i64 (g 0 / 256 % 256), .int .u64 (g 0 / 4294967296), .int .u64 (g 1), .int .u64 (g 2), .slice ai s ci]) ∧ Hid (w'.ownsRow w.heap.size 27 1 (.slice ai s ci) s (wcs s (fun i => g (3 + i))))) ∧ Below w.heap.size w w' := by
  have HS := hide (fun (w' : World) (hb : Below w.heap.size w w') (i : Nat) (hi : i < 3 + s) => show w'.cell? ⟨b, off + i, none⟩ = some (.int .u64 (g i)) by
    obtain ⟨b1, o1, e1, hl, hc⟩ := hS i hi
    cases e1
    exact (hb.cell (p := ⟨b, off + i, none⟩) (by show b < w.heap.size; omega)).trans hc)
  have HSS := hide hS
  have hbl : b < w.heap.size := by obtain ⟨b1, o1, e1, hl, hc⟩ := hS 0 (by omega); cases e1; omega
  obtain ⟨p, hsl, hp⟩ := slice_from (b := b) (off := off) (z := 3 + s) 3 (by omega) hc
  simp only [show ((3 : Nat) : Int) = 3 from rfl, show 3 + s - 3 = s by omega] at hsl hp
  have HP := hide hp
  clear hS hp
  have HU := hide (fun w1 => unpack_word (g 0) h0 h1 w1)
  simp only [obj] at HU
  obtain ⟨W0, hW0⟩ : ∃ W0, w.alloc (.cells #[.bool false, .bool false, .bool false, .bool false, .int .i64 0, .int .u64 0, .int .u64 0, .int .u64 0, .slice none 0 0] 57) = W0 := ⟨_, rfl⟩
  have HB := hide (show Below w.heap.size w W0 by rw [← hW0]; exact (Below.refl _ w).alloc (Nat.le_refl _) _)
  have c0 : W0.cell? ⟨b, off, none⟩ = some (.int .u64 (g 0)) := by simpa using HS.out W0 HB.out 0 (by omega)
  have i0 : (0 : Int) < ((3 + s : Nat) : Int) := by omega
  go_enter Try.func54, Try.ntmps54
  go_upto_region 3 with (go_at_call 83; refine (HU.out _).mono ?_; rintro e w1 ⟨rfl, hb1⟩; have HB1 := hide hb1; clear hb1)
  have HB01 := hide (HB.out.trans (HB1.out.mono HB.out.size))
  have hb1 : b < w1.heap.size := by have := HB01.out.size; omega
  have hne : ¬ b = w1.heap.size := by omega
  have d1 := HS.out w1 HB01.out 1 (by omega)
  have d2 := HS.out w1 HB01.out 2 (by omega)
  have i1 : (1 : Int) < ((3 + s : Nat) : Int) := by omega
  have i2 : (2 : Int) < ((3 + s : Nat) : Int) := by omega
  have HR0 := hide (show W0.rowIs w.heap.size 57 9 (lrow [.bool false, .bool false, .bool false, .bool false, .int .i64 0, .int .u64 0, .int .u64 0, .int .u64 0, .slice none 0 0]) by rw [← hW0]; exact rowL_alloc w [.bool false, .bool false, .bool false, .bool false, .int .i64 0, .int .u64 0, .int .u64 0, .int .u64 0, .slice none 0 0] _ rfl)
  have hl0 : w.heap.size < W0.heap.size := HR0.out.lt
  have hl1 : W0.heap.size ≤ w1.heap.size := HB1.out.size
  clear c0 hW0
  go_region
  obtain ⟨W3, hW3⟩ : ∃ W3, (w1.alloc (.cells #[.bool (hasB (g 0) 1), .bool (numB (g 0) 2 == co), .bool (hasB (g 0) 4), .bool (hasB (g 0) 8), .int .i64 (g 0 / 256 % 256), .int .u64 (g 0 / 4294967296), .int .u64 (g 1), .int .u64 (g 2), .slice none 0 0] 57)).drew = W3 := ⟨_, rfl⟩
  have B3 : Below w1.heap.size w1 W3 := by rw [← hW3]; exact ((Below.refl _ w1).alloc (Nat.le_refl _) _).drew
  have HB3 := hide (HB1.out.trans (B3.mono HB1.out.size))
  have HB03 := hide (HB.out.trans (HB3.out.mono HB.out.size))
  have HR3 := hide (show W3.rowIs w1.heap.size 57 9 (lrow [.bool (hasB (g 0) 1), .bool (numB (g 0) 2 == co), .bool (hasB (g 0) 4), .bool (hasB (g 0) 8), .int .i64 (g 0 / 256 % 256), .int .u64 (g 0 / 4294967296), .int .u64 (g 1), .int .u64 (g 2), .slice none 0 0]) by rw [← hW3]; exact (rowL_alloc w1 [.bool (hasB (g 0) 1), .bool (numB (g 0) 2 == co), .bool (hasB (g 0) 4), .bool (hasB (g 0) 8), .int .i64 (g 0 / 256 % 256), .int .u64 (g 0 / 4294967296), .int .u64 (g 1), .int .u64 (g 2), .slice none 0 0] _ rfl).drew)
  have l3 : w1.heap.size < W3.heap.size := HR3.out.lt
  have CV := hide (copied_v (w := W3) (cap := cap - 3) (part_sees (at' := 3) (n := s) HSS.out HB03.out hB (Nat.le_refl _) HP.out) (Nat.le_refl _) (by omega))
  simp only [hW3]
  clear hW3 d1 d2 B3
  go_wp2_with (fail)
  refine CV.out.mono ?_
  rintro e w4 ⟨ga, rfl, HO4, hb4⟩
  have HB4 := hide hb4
  clear hb4
  have R4 := HR3.out.of_block (HB4.out.block _ l3)
  have R5 := HR0.out.of_block ((HB4.out.block _ (by omega)).trans (HB3.out.block _ hl0))
  obtain ⟨e0, e1, e2, e3, e4, e5, e6, e7, e8⟩ : w4.cell? ⟨w1.heap.size, 0, none⟩ = some (.bool (hasB (g 0) 1)) ∧ w4.cell? ⟨w1.heap.size, 1, none⟩ = some (.bool (numB (g 0) 2 == co)) ∧ w4.cell? ⟨w1.heap.size, 2, none⟩ = some (.bool (hasB (g 0) 4)) ∧ w4.cell? ⟨w1.heap.size, 3, none⟩ = some (.bool (hasB (g 0) 8)) ∧ w4.cell? ⟨w1.heap.size, 4, none⟩ = some (.int .i64 (g 0 / 256 % 256)) ∧ w4.cell? ⟨w1.heap.size, 5, none⟩ = some (.int .u64 (g 0 / 4294967296)) ∧ w4.cell? ⟨w1.heap.size, 6, none⟩ = some (.int .u64 (g 1)) ∧ w4.cell? ⟨w1.heap.size, 7, none⟩ = some (.int .u64 (g 2)) ∧ w4.cell? ⟨w1.heap.size, 8, none⟩ = some (.slice none 0 0) := ⟨R4.cell (i := 0) (by decide), R4.cell (i := 1) (by decide), R4.cell (i := 2) (by decide), R4.cell (i := 3) (by decide), R4.cell (i := 4) (by decide), R4.cell (i := 5) (by decide), R4.cell (i := 6) (by decide), R4.cell (i := 7) (by decide), R4.cell (i := 8) (by decide)⟩
  obtain ⟨z0, z1, z2, z3, z4, z5, z6, z7, z8⟩ : w4.cell? ⟨w.heap.size, 0, none⟩ = some (.bool false) ∧ w4.cell? ⟨w.heap.size, 1, none⟩ = some (.bool false) ∧ w4.cell? ⟨w.heap.size, 2, none⟩ = some (.bool false) ∧ w4.cell? ⟨w.heap.size, 3, none⟩ = some (.bool false) ∧ w4.cell? ⟨w.heap.size, 4, none⟩ = some (.int .i64 0) ∧ w4.cell? ⟨w.heap.size, 5, none⟩ = some (.int .u64 0) ∧ w4.cell? ⟨w.heap.size, 6, none⟩ = some (.int .u64 0) ∧ w4.cell? ⟨w.heap.size, 7, none⟩ = some (.int .u64 0) ∧ w4.cell? ⟨w.heap.size, 8, none⟩ = some (.slice none 0 0) := ⟨R5.cell (i := 0) (by decide), R5.cell (i := 1) (by decide), R5.cell (i := 2) (by decide), R5.cell (i := 3) (by decide), R5.cell (i := 4) (by decide), R5.cell (i := 5) (by decide), R5.cell (i := 6) (by decide), R5.cell (i := 7) (by decide), R5.cell (i := 8) (by decide)⟩
  have fz4 : ∀ i, w4.frozen? ⟨w1.heap.size, i, none⟩ = false := fun i => R4.frozen i
  have fz5 : ∀ i, w4.frozen? ⟨w.heap.size, i, none⟩ = false := fun i => R5.frozen i
  have hne2 : ¬ w.heap.size = w1.heap.size := by omega
  have hne3 : ¬ w1.heap.size = w.heap.size := by omega
  clear R4 R5
  go_wp2
  refine bodyPost_ret (v := .agg #[.bool (hasB (g 0) 1), .bool (numB (g 0) 2 == co), .bool (hasB (g 0) 4), .bool (hasB (g 0) 8), .int .i64 (g 0 / 256 % 256), .int .u64 (g 0 / 4294967296), .int .u64 (g 1), .int .u64 (g 2), .slice (some ⟨ga, 0, none⟩) s s]) (by simp [results, Try.results54, go_sem, *]) rfl ⟨⟨some ⟨ga, 0, none⟩, s, rfl, ?_⟩, ?_⟩
  · refine owns_low (base := W3.heap.size) ?_ (by omega)
    repeat' refine owns_set ?_ (by simp only; omega) _
    exact HO4.out
  · repeat' refine Below.setCell ?_ (by simp only; omega) _
    exact HB03.out.trans (HB4.out.mono HB03.out.size)
end Vw
end Go.Proofs.Ytbffhfmhjnflbaa
