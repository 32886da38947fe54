/-
  Lemmas: View, New, Own.
-/
import Derived.Test.YtppgbndoijppnaaGreatTp02
import Derived.Deep.QuietTactic
import Derived.BigQuiet
import Derived.Maps.AppendAt
namespace Go.Proofs.YtppgbndoijppnaaGreat
set_option maxHeartbeats 8000000
open Go.RowKit
set_option linter.unusedVariables false
set_option linter.unusedSimpArgs false
set_option maxRecDepth 20000
section
def Sees (w : World) (B : Nat) (ao : Option Addr) (n : Nat) (f : Nat → Int) : Prop :=
 ∀ j, j < n → ∃ b off, ao = some ⟨b, off, none⟩ ∧ b < B ∧ w.cell? ⟨b, off + j, none⟩ = some (.int .u64 (f j))
def SeesS (w : World) (B : Nat) (ao : Option Addr) (n : Nat) (a : Nat → Stp) : Prop :=
 ∀ j, j < n → ∃ b off, ao = some ⟨b, off, none⟩ ∧ b < B ∧ ∀ i, i < 6 → w.cell? ⟨b, off + j * 6 + i, none⟩ = some ((a j).cell i)
theorem Sees.below {w w' : World} {B C : Nat} {ao : Option Addr} {n : Nat} {f : Nat → Int} (h : Sees w B ao n f) (hb : Below C w w') (hBC : B ≤ C) : Sees w' B ao n f :=
 fun j hj => by obtain ⟨b, off, e, hl, hc⟩ := h j hj; exact ⟨b, off, e, hl, (hb.cell (p := ⟨b, off + j, none⟩) (by show b < C; omega)).trans hc⟩
theorem SeesS.below {w w' : World} {B C : Nat} {ao : Option Addr} {n : Nat} {a : Nat → Stp} (h : SeesS w B ao n a) (hb : Below C w w') (hBC : B ≤ C) : SeesS w' B ao n a :=
 fun j hj => by obtain ⟨b, off, e, hl, hc⟩ := h j hj; exact ⟨b, off, e, hl, fun i hi => (hb.cell (p := ⟨b, off + j * 6 + i, none⟩) (by show b < C; omega)).trans (hc i hi)⟩
theorem Sees.mono {w : World} {B C : Nat} {ao : Option Addr} {n : Nat} {f : Nat → Int} (h : Sees w B ao n f) (hBC : B ≤ C) : Sees w C ao n f :=
 fun j hj => by obtain ⟨b, off, e, hl, hc⟩ := h j hj; exact ⟨b, off, e, by omega, hc⟩
theorem SeesS.mono {w : World} {B C : Nat} {ao : Option Addr} {n : Nat} {a : Nat → Stp} (h : SeesS w B ao n a) (hBC : B ≤ C) : SeesS w C ao n a :=
 fun j hj => by obtain ⟨b, off, e, hl, hc⟩ := h j hj; exact ⟨b, off, e, by omega, hc⟩
theorem IsRow.sees {w : World} {g n cap : Nat} {f : Nat → Int} (h : IsRow w g n cap f) : Sees w w.heap.size (some ⟨g, 0, none⟩) n f :=
 fun j hj => ⟨g, 0, rfl, h.lt, by simpa using h.cell hj⟩
theorem same_words {w : World} {B B' : Nat} {ao ao' : Option Addr} {n cap cap' : Nat} {f f' : Nat → Int} (h : Sees w B ao n f) (h' : Sees w B' ao' n f') (e : ∀ i, i < n → f i = f' i) (hn : n ≤ 9223372036854775807) :
  Calls Tryz.prog 20 #[.slice ao n cap, .slice ao' n cap'] w fun e w' => e = .returned (.bool true) ∧ ∃ m, w' = w.drewN m := by
 have H := hide h
 have H' := hide h'
 clear h h'
 go_enter Tryz.func20, Tryz.ntmps20
 go_wp2_with fail
 go_loopw [5] (fun i wr => ∃ k m : Nat, k ≤ n ∧ i = .int .i64 k ∧ wr = w.drewN m) (fun i _ => n - (intOf i).toNat)
 case atStart => exact ⟨0, 0, Nat.zero_le _, rfl, rfl⟩
 case round =>
  obtain ⟨k, m, hk, rfl, rfl⟩ := hrel
  by_cases hlt : k < n
  ·obtain ⟨b, off, rfl, hbl, hcc⟩ := H.out k hlt
   obtain ⟨b', off', rfl, hbl', hcc'⟩ := H'.out k hlt
   have he := e k hlt
   have hkn : (k : Int) < (n : Int) := by omega
   go_wp2
   go_quiet (fail)
   go_wp2
   go_roundw
   case rel => exact ⟨k + 1, _, by omega, by go_num, rfl⟩
   case measure => simp [intOf]; omega
  ·go_wp2
   go_ret
   exact ⟨rfl, _, rfl⟩
end
section
theorem info110 : (Tryz.prog.info? 140).map (fun i => (i.zero.map Value.cells, i.size, i.bytes)) = some (some #[.int .u64 0], 1, 8) := by kernel_rfl
theorem info46 : (Tryz.prog.info? 50).map (fun i => (i.zero.map Value.cells, i.size, i.bytes)) = some (some #[.int .u64 0], 1, 8) := by kernel_rfl
theorem run_make_z {P : Program} (t e : TypeId) (zc : Array Value) (size bytes : Nat) (ht : P.underlying t = some (.slice e)) (hinfo : (P.info? e).map (fun i => (i.zero.map Value.cells, i.size, i.bytes)) = some (some zc, size, bytes))
  (n : Nat) (hbytes : bytes * n ≤ 281474976710656) (h63 : n ≤ 9223372036854775807) (w : World) :
  (Instr.makeSlice t (.int .i64 (n : Int)) (.int .i64 (n : Int))).run P w = .ok (.slice (some ⟨w.heap.size, 0, none⟩) n n) (w.alloc (.cells (madeCells zc (n * size)) e)) := by
 obtain ⟨i, hi, hzz⟩ := Option.map_eq_some_iff.1 hinfo
 simp only [Prod.mk.injEq] at hzz
 obtain ⟨hz, hs, hb⟩ := hzz
 obtain ⟨z, hz, hzc⟩ := Option.map_eq_some_iff.1 hz
 have hbi : (i.bytes : Int) * (n : Int) ≤ 281474976710656 := by
  rw [hb]
  have h : ((bytes * n : Nat) : Int) ≤ 281474976710656 := by omega
  rwa [Int.natCast_mul] at h
 have hr := run_make (P := P) w t e i z ht hi hz .i64 .i64 n n (by omega) (Int.le_refl _) hbi (by omega)
 simpa [hs, hzc] using hr
theorem rowIs_one (w : World) (o : Value) (t : TypeId) : (w.alloc (.cells #[o] t)).rowIs w.heap.size t 1 (fun _ => o) :=
 World.rowIs_alloc w #[o] t _ (fun i hi => by have h0 : i = 0 := (by simpa using hi); subst h0; rfl)
theorem new_long {w : World} {ao : Option Addr} {n cap : Nat} (hn : 4096 < n) :
  Calls Tryz.prog 29 #[.slice ao n cap] w fun e w' => e = .returned (.tuple #[.pointer none, .int .i64 1]) ∧ w' = w := by
 go_enter Tryz.func29, Tryz.ntmps29
 go_wp2
 refine bodyPost_ret (v := .tuple #[.pointer none, .int .i64 1]) (by simp [results, Tryz.results51, go_sem]) rfl ⟨rfl, rfl⟩
theorem new_mem {w : World} {ao : Option Addr} {n cap : Nat} {f : Nat → Int} (h : Sees w w.heap.size ao n f) (hf : ∀ i, i < n → 0 ≤ f i ∧ f i ≤ 18446744073709551615) (hn : n ≤ 4096) :
  Calls Tryz.prog 29 #[.slice ao n cap] w fun e w' => ∃ bm bw, e = .returned (.tuple #[.pointer (some ⟨bm, 0, none⟩), .int .i64 0]) ∧ IsMem w' bm bw n f ∧ Below w.heap.size w w' ∧ w.heap.size ≤ bm ∧ w.heap.size ≤ bw := by
 have H := hide h
 clear h
 have hmk := run_make_z (P := Tryz.prog) 133 140 _ 1 8 Tryz.underlying133 info110 n (by omega) (by omega)
 have m0 : IsMem ((w.alloc (.cells (madeCells #[.int .u64 0] n) 140)).alloc (.cells #[.slice (some ⟨w.heap.size, 0, none⟩) n n] 135)) (w.heap.size + 1) w.heap.size n (fun _ => 0) :=
  ⟨by have := rowIs_one (w.alloc (.cells (madeCells #[.int .u64 0] n) 140)) (.slice (some ⟨w.heap.size, 0, none⟩) n n) 135; simpa using this, (World.rowIs_made w (.int .u64 0) n 140).alloc _, hn, fun _ _ => by simp⟩
 have M0 := hide m0
 clear m0
 have b0 : Below w.heap.size w ((w.alloc (.cells (madeCells #[.int .u64 0] n) 140)).alloc (.cells #[.slice (some ⟨w.heap.size, 0, none⟩) n n] 135)) := ((Below.refl _ w).alloc (Nat.le_refl _) _).alloc (by simp) _
 have B0 := hide b0
 clear b0
 have HF := hide hf
 clear hf
 go_enter Tryz.func29, Tryz.ntmps29
 go_wp2_with fail
 go_loopw [17] (fun i wr => ∃ (k : Nat) (fk : Nat → Int), k ≤ n ∧ i = .int .i64 k ∧ IsMem wr (w.heap.size + 1) w.heap.size n fk ∧ (∀ j, j < k → fk j = f j) ∧ Below w.heap.size w wr) (fun i _ => n - (intOf i).toNat)
 case atStart => exact ⟨0, fun _ => 0, Nat.zero_le _, rfl, by simpa using M0.out, fun j hj => absurd hj (Nat.not_lt_zero _), by simpa using B0.out⟩
 case round =>
  obtain ⟨k, fk, hk, rfl, hm, he, hb⟩ := hrel
  have HE := hide he
  clear he
  by_cases hlt : k < n
  ·obtain ⟨b, off, rfl, hbl, hcc⟩ := H.out k hlt
   have hcx : wr.cell? ⟨b, off + k, none⟩ = some (.int .u64 (f k)) := (hb.cell (p := ⟨b, off + k, none⟩) hbl).trans hcc
   have hc := hm.head.cell (i := 0) (by omega)
   have hcw := hm.row.cell hlt
   have hfz := hm.row.frozen k
   go_wp2_with (go_at_call 57; refine (word_store _ _ _ _ _ hcw hfz).mono ?_; rintro e w' ⟨rfl, rfl⟩)
   go_roundw
   case rel => exact ⟨k + 1, putF fk k (f k), by omega, by go_num, hm.set k _ (HF.out k hlt), fun j hj => by (unfold putF; split; (subst_vars; rfl); exact HE.out j (by omega)), hb.setCell (Nat.le_refl _) _⟩
   case measure => simp [intOf]; omega
  ·go_wp2
   have hkn : k = n := by omega
   refine bodyPost_ret (v := .tuple #[.pointer (some ⟨w.heap.size + 1, 0, none⟩), .int .i64 0]) (by simp [results, Tryz.results51, go_sem]) rfl ⟨_, _, rfl, hm.congr (fun i hi => HE.out i (by omega)), hb, by omega, by omega⟩
theorem words_mem {w : World} {bm bw n : Nat} {f : Nat → Int} (hm0 : IsMem w bm bw n f) :
  Calls Tryz.prog 31 #[.pointer (some ⟨bm, 0, none⟩)] w fun e w' => ∃ g, e = .returned (.slice (some ⟨g, 0, none⟩) n n) ∧ IsRow w' g n n f ∧ Below w.heap.size w w' ∧ w.heap.size ≤ g := by
 have hmost := hm0.most
 have hmk := run_make_z (P := Tryz.prog) 24 50 _ 1 8 Tryz.underlying24 info46 n (by omega) (by omega)
 have r0 : IsRow (w.alloc (.cells (madeCells #[.int .u64 0] n) 50)) w.heap.size n n (fun _ => 0) := ⟨Nat.le_refl _, by unfold maxLen; omega, ⟨_, World.rowIs_made w (.int .u64 0) n 50, fun _ _ => rfl⟩, fun _ _ => by simp⟩
 have R0 := hide r0
 clear r0
 have M0 := hide hm0
 have l1 := hm0.head.lt
 have l2 := hm0.row.lt
 have b0 : Below w.heap.size w (w.alloc (.cells (madeCells #[.int .u64 0] n) 50)) := (Below.refl _ w).alloc (Nat.le_refl _) _
 have B0 := hide b0
 clear b0
 go_enter Tryz.func31, Tryz.ntmps31
 go_wp2_with (go_at_call 60; refine (size_mem hm0).mono ?_; rintro e w' ⟨rfl, hw⟩; obtain rfl := hw.symm)
 go_loopw [10] (fun i wr => ∃ (k : Nat) (fk : Nat → Int), k ≤ n ∧ i = .int .i64 k ∧ IsRow wr w.heap.size n n fk ∧ (∀ j, j < k → fk j = f j) ∧ Below w.heap.size w wr) (fun i _ => n - (intOf i).toNat)
 case atStart => exact ⟨0, fun _ => 0, Nat.zero_le _, rfl, by simpa using R0.out, fun j hj => absurd hj (Nat.not_lt_zero _), by simpa using B0.out⟩
 case round =>
  obtain ⟨k, fk, hk, rfl, hr, he, hb⟩ := hrel
  have HE := hide he
  clear he
  by_cases hlt : k < n
  ·have hm := M0.out.below hb
   have hc := hm.head.cell (i := 0) (by omega)
   have hcw := hm.row.cell hlt
   have hcr := hr.cell hlt
   have hfr := hr.frozen k
   go_wp2_with (go_at_call 61; refine (word_load _ _ _ _ hcw).mono ?_; rintro e w' ⟨rfl, rfl⟩)
   go_roundw
   case rel => exact ⟨k + 1, putF fk k (f k), by omega, by go_num, hr.set k _ (M0.out.word k hlt), fun j hj => by (unfold putF; split; (subst_vars; rfl); exact HE.out j (by omega)), hb.setCell (Nat.le_refl _) _⟩
   case measure => simp [intOf]; omega
  ·go_wp2
   go_ret
   exact ⟨_, rfl, hr.congr (fun i hi => HE.out i (by omega)), hb, Nat.le_refl _⟩
end
section
set_option linter.unusedSectionVars false
structure Touch (w w' : World) (S : Nat → Prop) : Prop where
 os : w'.os = w.os
 tape : w'.tape = w.tape
 output : w'.output = w.output
 size : w.heap.size ≤ w'.heap.size
 block : ∀ k, k < w.heap.size → ¬ S k → w'.heap[k]? = w.heap[k]?
namespace Touch
variable {w w' a b c : World} {S S' : Nat → Prop}
theorem refl (w : World) (S : Nat → Prop) : Touch w w S := ⟨rfl, rfl, rfl, Nat.le_refl _, fun _ _ _ => rfl⟩
theorem mono (h : Touch w w' S) (hs : ∀ k, k < w.heap.size → S k → S' k) : Touch w w' S' := ⟨h.os, h.tape, h.output, h.size, fun k hk hn => h.block k hk (fun hS => hn (hs k hk hS))⟩
theorem trans (h : Touch a b S) (k : Touch b c S) : Touch a c S :=
 ⟨k.os.trans h.os, k.tape.trans h.tape, k.output.trans h.output, Nat.le_trans h.size k.size, fun i hi hn => (k.block i (by have := h.size; omega) hn).trans (h.block i hi hn)⟩
theorem trans' (h : Touch a b S) (k : Touch b c S') (hs : ∀ i, i < a.heap.size → S' i → S i) : Touch a c S :=
 ⟨k.os.trans h.os, k.tape.trans h.tape, k.output.trans h.output, Nat.le_trans h.size k.size, fun i hi hn => (k.block i (by have := h.size; omega) (fun h' => hn (hs i hi h'))).trans (h.block i hi hn)⟩
theorem of_grown {r : Option Nat} (h : w.grownBy w' r) : Touch w w' (fun k => some k = r) := ⟨h.os, h.tape, h.output, h.size, fun k hk hn => h.block k hk hn⟩
theorem of_grown_none (h : w.grownBy w' none) (S : Nat → Prop) : Touch w w' S := ⟨h.os, h.tape, h.output, h.size, fun k hk hn => h.block k hk (by simp)⟩
theorem of_below (h : Below w.heap.size w w') (S : Nat → Prop) : Touch w w' S := ⟨h.os, h.tape, h.output, h.size, fun k hk hn => h.block k hk⟩
theorem alloc (h : Touch w w' S) (o : Obj) : Touch w (w'.alloc o) S := h.trans' (S' := S) ⟨rfl, rfl, rfl, by simp, fun k hk _ => Below.heap_alloc _ _ _ hk⟩ (fun _ _ h => h)
theorem drew (h : Touch w w' S) : Touch w w'.drew S := ⟨h.os, h.tape, h.output, h.size, h.block⟩
theorem setCell (h : Touch w w' S) (p : Addr) (hp : S p.block ∨ w.heap.size ≤ p.block) (u : Value) : Touch w (w'.setCell p u) S :=
 ⟨h.os, h.tape, h.output, by simpa [World.setCell] using h.size, fun k hk hn => (Below.heap_setCell _ _ _ _ (fun e => by subst e; rcases hp with hp | hp; exact hn hp; omega)).trans (h.block k hk hn)⟩
theorem below {B : Nat} (h : Touch w w' S) (hs : ∀ k, S k → B ≤ k) (hB : B ≤ w.heap.size) : Below B w w' :=
 ⟨h.os, h.tape, h.output, h.size, fun k hk => h.block k (by omega) (fun hS => by have := hs k hS; omega)⟩
end Touch
structure Row where
 t : TypeId
 n : Nat
 f : Nat → Value
def upd {ι α : Type} [DecidableEq ι] (g : ι → α) (r : ι) (x : α) : ι → α := fun r' => if r' = r then x else g r'
@[simp] theorem upd_same {ι α : Type} [DecidableEq ι] (g : ι → α) (r : ι) (x : α) : upd g r x r = x := by simp [upd]
theorem upd_other {ι α : Type} [DecidableEq ι] (g : ι → α) {r r' : ι} (x : α) (h : r' ≠ r) : upd g r x r' = g r' := by simp [upd, h]
structure Has {ι : Type} (w : World) (base : Nat) (blk : ι → Nat) (c : ι → Option Row) : Prop where
 inj : ∀ r r' x x', c r = some x → c r' = some x' → blk r = blk r' → r = r'
 row : ∀ r x, c r = some x → w.rowIs (blk r) x.t x.n x.f
 new : ∀ r x, c r = some x → base ≤ blk r
namespace Has
variable {ι : Type} [DecidableEq ι] {w w' : World} {base : Nat} {blk : ι → Nat} {c : ι → Option Row} {S : Nat → Prop}
theorem lt (h : Has w base blk c) {r : ι} {x : Row} (e : c r = some x) : blk r < w.heap.size := (h.row r x e).lt
theorem ne (h : Has w base blk c) {r r' : ι} {x x' : Row} (e : c r = some x) (e' : c r' = some x') (hn : r ≠ r') : blk r ≠ blk r' := fun he => hn (h.inj r r' x x' e e' he)
theorem cell (h : Has w base blk c) {r : ι} {x : Row} (e : c r = some x) {i : Nat} (hi : i < x.n) : w.cell? ⟨blk r, i, none⟩ = some (x.f i) := (h.row r x e).cell hi
theorem frozen (h : Has w base blk c) {r : ι} {x : Row} (e : c r = some x) (i : Nat) : w.frozen? ⟨blk r, i, none⟩ = false := (h.row r x e).frozen i
theorem touch (h : Has w base blk c) (ht : Touch w w' S) (hs : ∀ r x, c r = some x → ¬ S (blk r)) : Has w' base blk c :=
 ⟨h.inj, fun r x e => (h.row r x e).of_block (ht.block _ (h.lt e) (hs r x e)), h.new⟩
theorem grown (h : Has w base blk c) (ht : w.grownBy w' none) : Has w' base blk c := h.touch (Touch.of_grown_none ht (fun _ => False)) (fun _ _ _ => id)
theorem below (h : Has w base blk c) (ht : Below w.heap.size w w') : Has w' base blk c := h.touch (Touch.of_below ht (fun _ => False)) (fun _ _ _ => id)
theorem drew (h : Has w base blk c) : Has w.drew base blk c := ⟨h.inj, fun r x e => (h.row r x e).drew, h.new⟩
theorem alloc (h : Has w base blk c) (o : Obj) : Has (w.alloc o) base blk c := ⟨h.inj, fun r x e => (h.row r x e).alloc o, h.new⟩
theorem move (h : Has w base blk c) (r : ι) (nb : Nat) (x : Row) (ht : Touch w w' S) (hs : ∀ r' x', r' ≠ r → c r' = some x' → ¬ S (blk r')) (hn : ∀ r' x', r' ≠ r → c r' = some x' → blk r' ≠ nb)
  (hr : w'.rowIs nb x.t x.n x.f) (hb : base ≤ nb) : Has w' base (upd blk r nb) (upd c r (some x)) := by
 refine ⟨fun r1 r2 x1 x2 e1 e2 e => ?_, fun r1 x1 e1 => ?_, fun r1 x1 e1 => ?_⟩
 ·by_cases h1 : r1 = r
  ·by_cases h2 : r2 = r
   ·rw [h1, h2]
   ·subst h1
    rw [upd_same, upd_other _ _ h2] at e
    rw [upd_other _ _ h2] at e2
    exact absurd e.symm (hn r2 x2 h2 e2)
  ·by_cases h2 : r2 = r
   ·subst h2
    rw [upd_same, upd_other _ _ h1] at e
    rw [upd_other _ _ h1] at e1
    exact absurd e (hn r1 x1 h1 e1)
   ·rw [upd_other _ _ h1, upd_other _ _ h2] at e
    rw [upd_other _ _ h1] at e1
    rw [upd_other _ _ h2] at e2
    exact h.inj r1 r2 x1 x2 e1 e2 e
 ·by_cases h1 : r1 = r
  ·subst h1
   rw [upd_same] at e1
   cases e1
   rw [upd_same]
   exact hr
  ·rw [upd_other _ _ h1] at e1 ⊢
   exact (h.row r1 x1 e1).of_block (ht.block _ (h.lt e1) (hs r1 x1 h1 e1))
 ·by_cases h1 : r1 = r
  ·subst h1
   rw [upd_same]
   exact hb
  ·rw [upd_other _ _ h1] at e1 ⊢
   exact h.new r1 x1 e1
theorem upd_self (blk : ι → Nat) (r : ι) : upd blk r (blk r) = blk := by
 funext r'
 by_cases h : r' = r
 ·subst h; simp
 ·rw [upd_other _ _ h]
theorem write (h : Has w base blk c) (r : ι) (x : Row) {x0 : Row} (e : c r = some x0) (ht : Touch w w' (fun k => k = blk r)) (hr : w'.rowIs (blk r) x.t x.n x.f) : Has w' base blk (upd c r (some x)) := by
 have := h.move r (blk r) x ht (fun r' x' hne e' he => h.ne e' e hne he) (fun r' x' hne e' => h.ne e' e hne) hr (h.new r x0 e)
 rwa [upd_self] at this
theorem set (h : Has w base blk c) (r : ι) {x0 : Row} (e : c r = some x0) (i : Nat) (v : Value) : Has (w.setCell ⟨blk r, i, none⟩ v) base blk (upd c r (some ⟨x0.t, x0.n, fun j => if j = i then v else x0.f j⟩)) :=
 h.write r _ e (Touch.setCell (S := fun k => k = blk r) (Touch.refl w _) ⟨blk r, i, none⟩ (.inl rfl) v) ((h.row r x0 e).set i v)
theorem add (h : Has w base blk c) (r : ι) (nb : Nat) (x : Row) (hb : base ≤ w.heap.size) (hnb : w.heap.size ≤ nb) (ht : Touch w w' S) (hs : ∀ r' x', r' ≠ r → c r' = some x' → ¬ S (blk r')) (hr : w'.rowIs nb x.t x.n x.f) :
  Has w' base (upd blk r nb) (upd c r (some x)) :=
 h.move r nb x ht hs (fun r' x' _ e' => by have := h.lt e'; omega) hr (by omega)
theorem weaken (h : Has w base blk c) {c' : ι → Option Row} (hc : ∀ r x, c' r = some x → c r = some x) : Has w base blk c' :=
 ⟨fun r r' x x' e e' => h.inj r r' x x' (hc r x e) (hc r' x' e'), fun r x e => h.row r x (hc r x e), fun r x e => h.new r x (hc r x e)⟩
end Has
def Pre (F : Nat → Value) (xs : List Value) : Prop := ∀ i u, xs[i]? = some u → F i = u
theorem owns_of_row {w : World} {b cap n size base : Nat} {e : TypeId} {F : Nat → Value} {xs : List Value} (h : w.rowIs b e (cap * size) F) (hp : Pre F xs) (hl : xs.length = n * size) (hn : n ≤ cap) (hc : cap ≤ maxLen) (hb : base ≤ b) :
  w.ownsRow base e size (.slice (some ⟨b, 0, none⟩) n cap) n xs := by
 obtain ⟨cur, hg, hs, hcur⟩ := h
 have hle : n * size ≤ cap * size := Nat.mul_le_mul_right _ hn
 refine ⟨hl, .inr ⟨b, cap, cur, rfl, hb, hg, hn, hc, hs, ?_⟩⟩
 apply List.ext_getElem?
 intro i
 by_cases hi : i < n * size
 ·rw [List.getElem?_take, if_pos hi]
  have h1 := hcur i (by omega)
  obtain ⟨u, hu⟩ : ∃ u, xs[i]? = some u := ⟨xs[i]'(by omega), by rw [List.getElem?_eq_getElem]⟩
  rw [hu, ← hp i u hu]
  simpa using h1
 ·rw [List.getElem?_take, if_neg hi, List.getElem?_eq_none (by omega)]
theorem row_of_owns {w : World} {n size base : Nat} {e : TypeId} {v : Value} {xs : List Value} (h : w.ownsRow base e size v n xs) (hn : 0 < n) :
  ∃ g cap F, v = .slice (some ⟨g, 0, none⟩) n cap ∧ base ≤ g ∧ w.rowIs g e (cap * size) F ∧ Pre F xs ∧ n ≤ cap ∧ cap ≤ maxLen := by
 obtain ⟨hl, h | ⟨g, cap, cur, rfl, hb, hg, hc, hm, hs, ht⟩⟩ := h
 ·omega
 ·refine ⟨g, cap, fun i => cur[i]?.getD default, rfl, hb, ⟨cur, hg, hs, fun i hi => ?_⟩, fun i u hu => ?_, hc, hm⟩
  ·have : i < cur.size := by omega
   simp [this]
  ·rw [← ht, List.getElem?_take] at hu
   split at hu
   ·simp at hu
    simp [hu]
   ·cases hu
theorem step_append_at {P : Program} {ops : Array Oper} {o : Oper} {a : Act} {w : World} {K : Act → World → Prop} {Q : Exit → Act → World → Prop} {E : Prop}
  (hg : o.guard = none) (s x : Operand) (t : TypeId) (hop : o.op = Op.call { callee := Callee.builtin Builtin.append, args := #[s, x], argTypes := #[t, t] })
  (base : Nat) (e : TypeId) (z : Value) (size bytes : Nat) (ht : P.underlying t = some (.slice e)) (hi : (P.info? e).map (fun i => (i.zero, i.size, i.bytes)) = some (some z, size, bytes))
  (hzs : z.cells.size = size) (hsz : 0 < size)
  (v : Value) (n : Nat) (xs : List Value) (hs : a.eval s = v) (hown : w.ownsRow base e size v n xs)
  (ad : Addr) (m c : Nat) (news : List Value) (hx : a.eval x = .slice (some ad) m c) (hl : news.length = m * size) (hnews : ∀ j u, news[j]? = some u → w.cell? (ad.add j) = some u) (h1 : ∀ u ∈ news, u.oneCell' = true)
  (h63 : n + m ≤ maxLen) (hbytes : (n + m) * bytes ≤ 140737488355328) (hbase : base ≤ w.heap.size)
  (h : ∀ v' w', w'.ownsRow base e size v' (n + m) (xs ++ news) → w.grownBy w' v.ownBlock → (v'.ownBlock = v.ownBlock ∨ v'.ownBlock = some w.heap.size) → K (a.put o.dst v') w') :
  if Region.wanted o (yielded ops a.tmps) = true then Oper.wp P o a w K Q else E := by
 obtain ⟨i, hi1, hi2⟩ : ∃ i, P.info? e = some i ∧ (i.zero, i.size, i.bytes) = (some z, size, bytes) := by
  cases hp : P.info? e with
  | none => rw [hp] at hi; cases hi
  | some i => rw [hp] at hi; exact ⟨i, rfl, by simpa using hi⟩
 simp only [Prod.mk.injEq] at hi2
 have hw : Region.wanted o (yielded ops a.tmps) = true := by simp [Region.wanted, hg]
 rw [if_pos hw]
 obtain ⟨v', w', hr, h2, h3, h4, h5⟩ := run_append_own_at (P := P) w base t o.type e i z size bytes ht hi1 hi2.1 hi2.2.1 hi2.2.2 hzs hsz v n xs hown ad m c news hl hnews h1 h63 hbytes hbase
 unfold Oper.wp execOp
 simp only [hop, resolve, invoke, builtin, Sem.run_bind, Sem.run_pure, Result.andThen_ok, List.map_toArray, List.map_cons, List.map_nil, hs, hx, hr]
 exact h v' w' h2 h3 h5
end
end Go.Proofs.YtppgbndoijppnaaGreat
