/-
  Lemmas: View, CopyW, New, Own, Spec, RInv.
-/
import Derived.Test.YtidihnnmdmlgfaaGreatTp02
import Derived.Deep.QuietTactic
import Derived.BigQuiet
import Derived.Laws.AppendOwnNone
import Derived.Maps.AppendAt
import Derived.Test.YtidihnnmdmlgfaaGreatTp01
import Derived.Orders
namespace Go.Proofs.YtidihnnmdmlgfaaGreat
set_option maxHeartbeats 8000000
open Go.RowKit
set_option linter.unusedVariables false
set_option linter.unusedSimpArgs false
set_option maxRecDepth 20000
section
def Sees (w : World) (B : Nat) (ao : Option Addr) (n : Nat) (f : Nat → Int) : Prop :=
  ∀ j, j < n → ∃ b off, ao = some ⟨b, off, none⟩ ∧ b < B ∧ w.cell? ⟨b, off + j, none⟩ = some (.int .u64 (f j))
def SeesS (w : World) (B : Nat) (ao : Option Addr) (n : Nat) (a : Nat → Stp) : Prop :=
  ∀ j, j < n → ∃ b off, ao = some ⟨b, off, none⟩ ∧ b < B ∧ ∀ i, i < 6 → w.cell? ⟨b, off + j * 6 + i, none⟩ = some ((a j).cell i)
theorem Sees.below {w w' : World} {B C : Nat} {ao : Option Addr} {n : Nat} {f : Nat → Int} (h : Sees w B ao n f) (hb : Below C w w') (hBC : B ≤ C) : Sees w' B ao n f :=
  fun j hj => by obtain ⟨b, off, e, hl, hc⟩ := h j hj; exact ⟨b, off, e, hl, (hb.cell (p := ⟨b, off + j, none⟩) (by show b < C; omega)).trans hc⟩
theorem SeesS.below {w w' : World} {B C : Nat} {ao : Option Addr} {n : Nat} {a : Nat → Stp} (h : SeesS w B ao n a) (hb : Below C w w') (hBC : B ≤ C) : SeesS w' B ao n a :=
  fun j hj => by obtain ⟨b, off, e, hl, hc⟩ := h j hj; exact ⟨b, off, e, hl, fun i hi => (hb.cell (p := ⟨b, off + j * 6 + i, none⟩) (by show b < C; omega)).trans (hc i hi)⟩
theorem Sees.mono {w : World} {B C : Nat} {ao : Option Addr} {n : Nat} {f : Nat → Int} (h : Sees w B ao n f) (hBC : B ≤ C) : Sees w C ao n f :=
  fun j hj => by obtain ⟨b, off, e, hl, hc⟩ := h j hj; exact ⟨b, off, e, by omega, hc⟩
theorem SeesS.mono {w : World} {B C : Nat} {ao : Option Addr} {n : Nat} {a : Nat → Stp} (h : SeesS w B ao n a) (hBC : B ≤ C) : SeesS w C ao n a :=
  fun j hj => by obtain ⟨b, off, e, hl, hc⟩ := h j hj; exact ⟨b, off, e, by omega, hc⟩
theorem IsRow.sees {w : World} {g n cap : Nat} {f : Nat → Int} (h : IsRow w g n cap f) : Sees w w.heap.size (some ⟨g, 0, none⟩) n f :=
  fun j hj => ⟨g, 0, rfl, h.lt, by simpa using h.cell hj⟩
end
section
theorem info46e : ∃ i, Tryz.prog.info? 38 = some i ∧ i.zero = some (.int .u64 0) ∧ i.size = 1 ∧ i.bytes = 8 := by
  have h : (Tryz.prog.info? 38).map (fun i => (i.zero, i.size, i.bytes)) = some (some (.int .u64 0), 1, 8) := by kernel_rfl
  cases hp : Tryz.prog.info? 38 with
  | none => rw [hp] at h; cases h
  | some i => rw [hp] at h; simp at h; exact ⟨i, rfl, h.1, h.2.1, h.2.2⟩
def wordCells (n : Nat) (f : Nat → Int) : List Value := (List.range n).map fun i => Value.int .u64 (f i)
theorem Sees.news {w : World} {B : Nat} {ao : Option Addr} {n : Nat} {f : Nat → Int} (h : Sees w B ao n f) : ∀ ad, ao = some ad → ∀ j u, (wordCells n f)[j]? = some u → w.cell? (ad.add j) = some u := by
  intro ad hao j u hu
  have hj : j < n := by have := (List.getElem?_eq_some_iff.1 hu).1; simpa [wordCells] using this
  obtain ⟨b, off, he, hbl, hcc⟩ := h j hj
  rw [hao] at he
  cases he
  have : u = .int .u64 (f j) := by simp [wordCells, hj] at hu; exact hu.symm
  subst this
  rw [Go.WideShapes.add_plain]
  exact hcc
theorem Sees.alloc {w : World} {ao : Option Addr} {n : Nat} {f : Nat → Int} (h : Sees w w.heap.size ao n f) (o : Obj) : Sees (w.alloc o) w.heap.size ao n f := h.below ((Below.refl _ w).alloc (Nat.le_refl _) o) (Nat.le_refl _)
end
section
theorem info110 : (Tryz.prog.info? 115).map (fun i => (i.zero.map Value.cells, i.size, i.bytes)) = some (some #[.int .u64 0], 1, 8) := by kernel_rfl
theorem info46 : (Tryz.prog.info? 38).map (fun i => (i.zero.map Value.cells, i.size, i.bytes)) = some (some #[.int .u64 0], 1, 8) := by kernel_rfl
theorem run_make_z {P : Program} (t e : TypeId) (zc : Array Value) (size bytes : Nat) (ht : P.underlying t = some (.slice e)) (hinfo : (P.info? e).map (fun i => (i.zero.map Value.cells, i.size, i.bytes)) = some (some zc, size, bytes))
    (n : Nat) (hbytes : bytes * n ≤ 281474976710656) (h63 : n ≤ 9223372036854775807) (w : World) :
    (Instr.makeSlice t (.int .i64 (n : Int)) (.int .i64 (n : Int))).run P w = .ok (.slice (some ⟨w.heap.size, 0, none⟩) n n) (w.alloc (.cells (madeCells zc (n * size)) e)) := by
  obtain ⟨i, hi, hzz⟩ := Option.map_eq_some_iff.1 hinfo
  simp only [Prod.mk.injEq] at hzz
  obtain ⟨hz, hs, hb⟩ := hzz
  obtain ⟨z, hz, hzc⟩ := Option.map_eq_some_iff.1 hz
  have hbi : (i.bytes : Int) * (n : Int) ≤ 281474976710656 := by
    rw [hb]
    have h : ((bytes * n : Nat) : Int) ≤ 281474976710656 := by omega
    rwa [Int.natCast_mul] at h
  have hr := run_make (P := P) w t e i z ht hi hz .i64 .i64 n n (by omega) (Int.le_refl _) hbi (by omega)
  simpa [hs, hzc] using hr
theorem rowIs_one (w : World) (o : Value) (t : TypeId) : (w.alloc (.cells #[o] t)).rowIs w.heap.size t 1 (fun _ => o) :=
  World.rowIs_alloc w #[o] t _ (fun i hi => by have h0 : i = 0 := (by simpa using hi); subst h0; rfl)
theorem new_long {w : World} {ao : Option Addr} {n cap : Nat} (hn : 4096 < n) :
    Calls Tryz.prog 29 #[.slice ao n cap] w fun e w' => e = .returned (.tuple #[.pointer none, .int .i64 1]) ∧ w' = w := by
  go_enter Tryz.func29, Tryz.ntmps29
  go_wp2
  refine bodyPost_ret (v := .tuple #[.pointer none, .int .i64 1]) (by simp [results, Tryz.results22, go_sem]) rfl ⟨rfl, rfl⟩
theorem new_mem {w : World} {ao : Option Addr} {n cap : Nat} {f : Nat → Int} (h : Sees w w.heap.size ao n f) (hf : ∀ i, i < n → 0 ≤ f i ∧ f i ≤ 18446744073709551615) (hn : n ≤ 4096) :
    Calls Tryz.prog 29 #[.slice ao n cap] w fun e w' => ∃ bm bw, e = .returned (.tuple #[.pointer (some ⟨bm, 0, none⟩), .int .i64 0]) ∧ IsMem w' bm bw n f ∧ Below w.heap.size w w' ∧ w.heap.size ≤ bm ∧ w.heap.size ≤ bw := by
  have H := hide h
  clear h
  have hmk := run_make_z (P := Tryz.prog) 108 115 _ 1 8 Tryz.underlying108 info110 n (by omega) (by omega)
  have m0 : IsMem ((w.alloc (.cells (madeCells #[.int .u64 0] n) 115)).alloc (.cells #[.slice (some ⟨w.heap.size, 0, none⟩) n n] 110)) (w.heap.size + 1) w.heap.size n (fun _ => 0) :=
    ⟨by have := rowIs_one (w.alloc (.cells (madeCells #[.int .u64 0] n) 115)) (.slice (some ⟨w.heap.size, 0, none⟩) n n) 110; simpa using this, (World.rowIs_made w (.int .u64 0) n 115).alloc _, hn, fun _ _ => by simp⟩
  have M0 := hide m0
  clear m0
  have b0 : Below w.heap.size w ((w.alloc (.cells (madeCells #[.int .u64 0] n) 115)).alloc (.cells #[.slice (some ⟨w.heap.size, 0, none⟩) n n] 110)) := ((Below.refl _ w).alloc (Nat.le_refl _) _).alloc (by simp) _
  have B0 := hide b0
  clear b0
  have HF := hide hf
  clear hf
  go_enter Tryz.func29, Tryz.ntmps29
  go_wp2_with fail
  go_loopw [17] (fun i wr => ∃ (k : Nat) (fk : Nat → Int), k ≤ n ∧ i = .int .i64 k ∧ IsMem wr (w.heap.size + 1) w.heap.size n fk ∧ (∀ j, j < k → fk j = f j) ∧ Below w.heap.size w wr) (fun i _ => n - (intOf i).toNat)
  case atStart => exact ⟨0, fun _ => 0, Nat.zero_le _, rfl, by simpa using M0.out, fun j hj => absurd hj (Nat.not_lt_zero _), by simpa using B0.out⟩
  case round =>
    obtain ⟨k, fk, hk, rfl, hm, he, hb⟩ := hrel
    have HE := hide he
    clear he
    by_cases hlt : k < n
    · obtain ⟨b, off, rfl, hbl, hcc⟩ := H.out k hlt
      have hcx : wr.cell? ⟨b, off + k, none⟩ = some (.int .u64 (f k)) := (hb.cell (p := ⟨b, off + k, none⟩) hbl).trans hcc
      have hc := hm.head.cell (i := 0) (by omega)
      have hcw := hm.row.cell hlt
      have hfz := hm.row.frozen k
      go_wp2_with (go_at_call 45; refine (word_store _ _ _ _ _ hcw hfz).mono ?_; rintro e w' ⟨rfl, rfl⟩)
      go_roundw
      case rel => exact ⟨k + 1, putF fk k (f k), by omega, by go_num, hm.set k _ (HF.out k hlt), fun j hj => by (unfold putF; split; (subst_vars; rfl); exact HE.out j (by omega)), hb.setCell (Nat.le_refl _) _⟩
      case measure => simp [intOf]; omega
    · go_wp2
      have hkn : k = n := by omega
      refine bodyPost_ret (v := .tuple #[.pointer (some ⟨w.heap.size + 1, 0, none⟩), .int .i64 0]) (by simp [results, Tryz.results22, go_sem]) rfl ⟨_, _, rfl, hm.congr (fun i hi => HE.out i (by omega)), hb, by omega, by omega⟩
theorem words_mem {w : World} {bm bw n : Nat} {f : Nat → Int} (hm0 : IsMem w bm bw n f) :
    Calls Tryz.prog 35 #[.pointer (some ⟨bm, 0, none⟩)] w fun e w' => ∃ g, e = .returned (.slice (some ⟨g, 0, none⟩) n n) ∧ IsRow w' g n n f ∧ Below w.heap.size w w' ∧ w.heap.size ≤ g := by
  have hmost := hm0.most
  have hmk := run_make_z (P := Tryz.prog) 24 38 _ 1 8 Tryz.underlying24 info46 n (by omega) (by omega)
  have r0 : IsRow (w.alloc (.cells (madeCells #[.int .u64 0] n) 38)) w.heap.size n n (fun _ => 0) := ⟨Nat.le_refl _, by unfold maxLen; omega, ⟨_, World.rowIs_made w (.int .u64 0) n 38, fun _ _ => rfl⟩, fun _ _ => by simp⟩
  have R0 := hide r0
  clear r0
  have M0 := hide hm0
  have l1 := hm0.head.lt
  have l2 := hm0.row.lt
  have b0 : Below w.heap.size w (w.alloc (.cells (madeCells #[.int .u64 0] n) 38)) := (Below.refl _ w).alloc (Nat.le_refl _) _
  have B0 := hide b0
  clear b0
  go_enter Tryz.func35, Tryz.ntmps35
  go_wp2_with (go_at_call 50; refine (size_mem hm0).mono ?_; rintro e w' ⟨rfl, hw⟩; obtain rfl := hw.symm)
  go_loopw [10] (fun i wr => ∃ (k : Nat) (fk : Nat → Int), k ≤ n ∧ i = .int .i64 k ∧ IsRow wr w.heap.size n n fk ∧ (∀ j, j < k → fk j = f j) ∧ Below w.heap.size w wr) (fun i _ => n - (intOf i).toNat)
  case atStart => exact ⟨0, fun _ => 0, Nat.zero_le _, rfl, by simpa using R0.out, fun j hj => absurd hj (Nat.not_lt_zero _), by simpa using B0.out⟩
  case round =>
    obtain ⟨k, fk, hk, rfl, hr, he, hb⟩ := hrel
    have HE := hide he
    clear he
    by_cases hlt : k < n
    · have hm := M0.out.below hb
      have hc := hm.head.cell (i := 0) (by omega)
      have hcw := hm.row.cell hlt
      have hcr := hr.cell hlt
      have hfr := hr.frozen k
      go_wp2_with (go_at_call 51; refine (word_load _ _ _ _ hcw).mono ?_; rintro e w' ⟨rfl, rfl⟩)
      go_roundw
      case rel => exact ⟨k + 1, putF fk k (f k), by omega, by go_num, hr.set k _ (M0.out.word k hlt), fun j hj => by (unfold putF; split; (subst_vars; rfl); exact HE.out j (by omega)), hb.setCell (Nat.le_refl _) _⟩
      case measure => simp [intOf]; omega
    · go_wp2
      go_ret
      exact ⟨_, rfl, hr.congr (fun i hi => HE.out i (by omega)), hb, Nat.le_refl _⟩
end
section
set_option linter.unusedSectionVars false
structure Touch (w w' : World) (S : Nat → Prop) : Prop where
  os : w'.os = w.os
  tape : w'.tape = w.tape
  output : w'.output = w.output
  size : w.heap.size ≤ w'.heap.size
  block : ∀ k, k < w.heap.size → ¬ S k → w'.heap[k]? = w.heap[k]?
namespace Touch
variable {w w' a b c : World} {S S' : Nat → Prop}
theorem refl (w : World) (S : Nat → Prop) : Touch w w S := ⟨rfl, rfl, rfl, Nat.le_refl _, fun _ _ _ => rfl⟩
theorem mono (h : Touch w w' S) (hs : ∀ k, k < w.heap.size → S k → S' k) : Touch w w' S' := ⟨h.os, h.tape, h.output, h.size, fun k hk hn => h.block k hk (fun hS => hn (hs k hk hS))⟩
theorem trans (h : Touch a b S) (k : Touch b c S) : Touch a c S :=
  ⟨k.os.trans h.os, k.tape.trans h.tape, k.output.trans h.output, Nat.le_trans h.size k.size, fun i hi hn => (k.block i (by have := h.size; omega) hn).trans (h.block i hi hn)⟩
theorem trans' (h : Touch a b S) (k : Touch b c S') (hs : ∀ i, i < a.heap.size → S' i → S i) : Touch a c S :=
  ⟨k.os.trans h.os, k.tape.trans h.tape, k.output.trans h.output, Nat.le_trans h.size k.size, fun i hi hn => (k.block i (by have := h.size; omega) (fun h' => hn (hs i hi h'))).trans (h.block i hi hn)⟩
theorem of_grown {r : Option Nat} (h : w.grownBy w' r) : Touch w w' (fun k => some k = r) := ⟨h.os, h.tape, h.output, h.size, fun k hk hn => h.block k hk hn⟩
theorem of_grown_none (h : w.grownBy w' none) (S : Nat → Prop) : Touch w w' S := ⟨h.os, h.tape, h.output, h.size, fun k hk hn => h.block k hk (by simp)⟩
theorem of_below (h : Below w.heap.size w w') (S : Nat → Prop) : Touch w w' S := ⟨h.os, h.tape, h.output, h.size, fun k hk hn => h.block k hk⟩
theorem alloc (h : Touch w w' S) (o : Obj) : Touch w (w'.alloc o) S := h.trans' (S' := S) ⟨rfl, rfl, rfl, by simp, fun k hk _ => Below.heap_alloc _ _ _ hk⟩ (fun _ _ h => h)
theorem drew (h : Touch w w' S) : Touch w w'.drew S := ⟨h.os, h.tape, h.output, h.size, h.block⟩
theorem setCell (h : Touch w w' S) (p : Addr) (hp : S p.block ∨ w.heap.size ≤ p.block) (u : Value) : Touch w (w'.setCell p u) S :=
  ⟨h.os, h.tape, h.output, by simpa [World.setCell] using h.size, fun k hk hn => (Below.heap_setCell _ _ _ _ (fun e => by subst e; rcases hp with hp | hp; exact hn hp; omega)).trans (h.block k hk hn)⟩
theorem below {B : Nat} (h : Touch w w' S) (hs : ∀ k, S k → B ≤ k) (hB : B ≤ w.heap.size) : Below B w w' :=
  ⟨h.os, h.tape, h.output, h.size, fun k hk => h.block k (by omega) (fun hS => by have := hs k hS; omega)⟩
end Touch
structure Row where
  t : TypeId
  n : Nat
  f : Nat → Value
def upd {ι α : Type} [DecidableEq ι] (g : ι → α) (r : ι) (x : α) : ι → α := fun r' => if r' = r then x else g r'
@[simp] theorem upd_same {ι α : Type} [DecidableEq ι] (g : ι → α) (r : ι) (x : α) : upd g r x r = x := by simp [upd]
theorem upd_other {ι α : Type} [DecidableEq ι] (g : ι → α) {r r' : ι} (x : α) (h : r' ≠ r) : upd g r x r' = g r' := by simp [upd, h]
structure Has {ι : Type} (w : World) (base : Nat) (blk : ι → Nat) (c : ι → Option Row) : Prop where
  inj : ∀ r r' x x', c r = some x → c r' = some x' → blk r = blk r' → r = r'
  row : ∀ r x, c r = some x → w.rowIs (blk r) x.t x.n x.f
  new : ∀ r x, c r = some x → base ≤ blk r
namespace Has
variable {ι : Type} [DecidableEq ι] {w w' : World} {base : Nat} {blk : ι → Nat} {c : ι → Option Row} {S : Nat → Prop}
theorem lt (h : Has w base blk c) {r : ι} {x : Row} (e : c r = some x) : blk r < w.heap.size := (h.row r x e).lt
theorem ne (h : Has w base blk c) {r r' : ι} {x x' : Row} (e : c r = some x) (e' : c r' = some x') (hn : r ≠ r') : blk r ≠ blk r' := fun he => hn (h.inj r r' x x' e e' he)
theorem cell (h : Has w base blk c) {r : ι} {x : Row} (e : c r = some x) {i : Nat} (hi : i < x.n) : w.cell? ⟨blk r, i, none⟩ = some (x.f i) := (h.row r x e).cell hi
theorem frozen (h : Has w base blk c) {r : ι} {x : Row} (e : c r = some x) (i : Nat) : w.frozen? ⟨blk r, i, none⟩ = false := (h.row r x e).frozen i
theorem touch (h : Has w base blk c) (ht : Touch w w' S) (hs : ∀ r x, c r = some x → ¬ S (blk r)) : Has w' base blk c :=
  ⟨h.inj, fun r x e => (h.row r x e).of_block (ht.block _ (h.lt e) (hs r x e)), h.new⟩
theorem grown (h : Has w base blk c) (ht : w.grownBy w' none) : Has w' base blk c := h.touch (Touch.of_grown_none ht (fun _ => False)) (fun _ _ _ => id)
theorem below (h : Has w base blk c) (ht : Below w.heap.size w w') : Has w' base blk c := h.touch (Touch.of_below ht (fun _ => False)) (fun _ _ _ => id)
theorem drew (h : Has w base blk c) : Has w.drew base blk c := ⟨h.inj, fun r x e => (h.row r x e).drew, h.new⟩
theorem alloc (h : Has w base blk c) (o : Obj) : Has (w.alloc o) base blk c := ⟨h.inj, fun r x e => (h.row r x e).alloc o, h.new⟩
theorem move (h : Has w base blk c) (r : ι) (nb : Nat) (x : Row) (ht : Touch w w' S) (hs : ∀ r' x', r' ≠ r → c r' = some x' → ¬ S (blk r')) (hn : ∀ r' x', r' ≠ r → c r' = some x' → blk r' ≠ nb)
    (hr : w'.rowIs nb x.t x.n x.f) (hb : base ≤ nb) : Has w' base (upd blk r nb) (upd c r (some x)) := by
  refine ⟨fun r1 r2 x1 x2 e1 e2 e => ?_, fun r1 x1 e1 => ?_, fun r1 x1 e1 => ?_⟩
  · by_cases h1 : r1 = r
    · by_cases h2 : r2 = r
      · rw [h1, h2]
      · subst h1
        rw [upd_same, upd_other _ _ h2] at e
        rw [upd_other _ _ h2] at e2
        exact absurd e.symm (hn r2 x2 h2 e2)
    · by_cases h2 : r2 = r
      · subst h2
        rw [upd_same, upd_other _ _ h1] at e
        rw [upd_other _ _ h1] at e1
        exact absurd e (hn r1 x1 h1 e1)
      · rw [upd_other _ _ h1, upd_other _ _ h2] at e
        rw [upd_other _ _ h1] at e1
        rw [upd_other _ _ h2] at e2
        exact h.inj r1 r2 x1 x2 e1 e2 e
  · by_cases h1 : r1 = r
    · subst h1
      rw [upd_same] at e1
      cases e1
      rw [upd_same]
      exact hr
    · rw [upd_other _ _ h1] at e1 ⊢
      exact (h.row r1 x1 e1).of_block (ht.block _ (h.lt e1) (hs r1 x1 h1 e1))
  · by_cases h1 : r1 = r
    · subst h1
      rw [upd_same]
      exact hb
    · rw [upd_other _ _ h1] at e1 ⊢
      exact h.new r1 x1 e1
theorem upd_self (blk : ι → Nat) (r : ι) : upd blk r (blk r) = blk := by
  funext r'
  by_cases h : r' = r
  · subst h; simp
  · rw [upd_other _ _ h]
theorem write (h : Has w base blk c) (r : ι) (x : Row) {x0 : Row} (e : c r = some x0) (ht : Touch w w' (fun k => k = blk r)) (hr : w'.rowIs (blk r) x.t x.n x.f) : Has w' base blk (upd c r (some x)) := by
  have := h.move r (blk r) x ht (fun r' x' hne e' he => h.ne e' e hne he) (fun r' x' hne e' => h.ne e' e hne) hr (h.new r x0 e)
  rwa [upd_self] at this
theorem set (h : Has w base blk c) (r : ι) {x0 : Row} (e : c r = some x0) (i : Nat) (v : Value) : Has (w.setCell ⟨blk r, i, none⟩ v) base blk (upd c r (some ⟨x0.t, x0.n, fun j => if j = i then v else x0.f j⟩)) :=
  h.write r _ e (Touch.setCell (S := fun k => k = blk r) (Touch.refl w _) ⟨blk r, i, none⟩ (.inl rfl) v) ((h.row r x0 e).set i v)
theorem add (h : Has w base blk c) (r : ι) (nb : Nat) (x : Row) (hb : base ≤ w.heap.size) (hnb : w.heap.size ≤ nb) (ht : Touch w w' S) (hs : ∀ r' x', r' ≠ r → c r' = some x' → ¬ S (blk r')) (hr : w'.rowIs nb x.t x.n x.f) :
    Has w' base (upd blk r nb) (upd c r (some x)) :=
  h.move r nb x ht hs (fun r' x' _ e' => by have := h.lt e'; omega) hr (by omega)
theorem weaken (h : Has w base blk c) {c' : ι → Option Row} (hc : ∀ r x, c' r = some x → c r = some x) : Has w base blk c' :=
  ⟨fun r r' x x' e e' => h.inj r r' x x' (hc r x e) (hc r' x' e'), fun r x e => h.row r x (hc r x e), fun r x e => h.new r x (hc r x e)⟩
end Has
def Pre (F : Nat → Value) (xs : List Value) : Prop := ∀ i u, xs[i]? = some u → F i = u
theorem owns_of_row {w : World} {b cap n size base : Nat} {e : TypeId} {F : Nat → Value} {xs : List Value} (h : w.rowIs b e (cap * size) F) (hp : Pre F xs) (hl : xs.length = n * size) (hn : n ≤ cap) (hc : cap ≤ maxLen) (hb : base ≤ b) :
    w.ownsRow base e size (.slice (some ⟨b, 0, none⟩) n cap) n xs := by
  obtain ⟨cur, hg, hs, hcur⟩ := h
  have hle : n * size ≤ cap * size := Nat.mul_le_mul_right _ hn
  refine ⟨hl, .inr ⟨b, cap, cur, rfl, hb, hg, hn, hc, hs, ?_⟩⟩
  apply List.ext_getElem?
  intro i
  by_cases hi : i < n * size
  · rw [List.getElem?_take, if_pos hi]
    have h1 := hcur i (by omega)
    obtain ⟨u, hu⟩ : ∃ u, xs[i]? = some u := ⟨xs[i]'(by omega), by rw [List.getElem?_eq_getElem]⟩
    rw [hu, ← hp i u hu]
    simpa using h1
  · rw [List.getElem?_take, if_neg hi, List.getElem?_eq_none (by omega)]
theorem row_of_owns {w : World} {n size base : Nat} {e : TypeId} {v : Value} {xs : List Value} (h : w.ownsRow base e size v n xs) (hn : 0 < n) :
    ∃ g cap F, v = .slice (some ⟨g, 0, none⟩) n cap ∧ base ≤ g ∧ w.rowIs g e (cap * size) F ∧ Pre F xs ∧ n ≤ cap ∧ cap ≤ maxLen := by
  obtain ⟨hl, h | ⟨g, cap, cur, rfl, hb, hg, hc, hm, hs, ht⟩⟩ := h
  · omega
  · refine ⟨g, cap, fun i => cur[i]?.getD default, rfl, hb, ⟨cur, hg, hs, fun i hi => ?_⟩, fun i u hu => ?_, hc, hm⟩
    · have : i < cur.size := by omega
      simp [this]
    · rw [← ht, List.getElem?_take] at hu
      split at hu
      · simp at hu
        simp [hu]
      · cases hu
theorem step_append_at {P : Program} {ops : Array Oper} {o : Oper} {a : Act} {w : World} {K : Act → World → Prop} {Q : Exit → Act → World → Prop} {E : Prop}
    (hg : o.guard = none) (s x : Operand) (t : TypeId) (hop : o.op = Op.call { callee := Callee.builtin Builtin.append, args := #[s, x], argTypes := #[t, t] })
    (base : Nat) (e : TypeId) (z : Value) (size bytes : Nat) (ht : P.underlying t = some (.slice e)) (hi : (P.info? e).map (fun i => (i.zero, i.size, i.bytes)) = some (some z, size, bytes))
    (hzs : z.cells.size = size) (hsz : 0 < size)
    (v : Value) (n : Nat) (xs : List Value) (hs : a.eval s = v) (hown : w.ownsRow base e size v n xs)
    (ad : Addr) (m c : Nat) (news : List Value) (hx : a.eval x = .slice (some ad) m c) (hl : news.length = m * size) (hnews : ∀ j u, news[j]? = some u → w.cell? (ad.add j) = some u) (h1 : ∀ u ∈ news, u.oneCell' = true)
    (h63 : n + m ≤ maxLen) (hbytes : (n + m) * bytes ≤ 140737488355328) (hbase : base ≤ w.heap.size)
    (h : ∀ v' w', w'.ownsRow base e size v' (n + m) (xs ++ news) → w.grownBy w' v.ownBlock → (v'.ownBlock = v.ownBlock ∨ v'.ownBlock = some w.heap.size) → K (a.put o.dst v') w') :
    if Region.wanted o (yielded ops a.tmps) = true then Oper.wp P o a w K Q else E := by
  obtain ⟨i, hi1, hi2⟩ : ∃ i, P.info? e = some i ∧ (i.zero, i.size, i.bytes) = (some z, size, bytes) := by
    cases hp : P.info? e with
    | none => rw [hp] at hi; cases hi
    | some i => rw [hp] at hi; exact ⟨i, rfl, by simpa using hi⟩
  simp only [Prod.mk.injEq] at hi2
  have hw : Region.wanted o (yielded ops a.tmps) = true := by simp [Region.wanted, hg]
  rw [if_pos hw]
  obtain ⟨v', w', hr, h2, h3, h4, h5⟩ := run_append_own_at (P := P) w base t o.type e i z size bytes ht hi1 hi2.1 hi2.2.1 hi2.2.2 hzs hsz v n xs hown ad m c news hl hnews h1 h63 hbytes hbase
  unfold Oper.wp execOp
  simp only [hop, resolve, invoke, builtin, Sem.run_bind, Sem.run_pure, Result.andThen_ok, List.map_toArray, List.map_cons, List.map_nil, hs, hx, hr]
  exact h v' w' h2 h3 h5
end
section
def cnt (g : Nat → Bool) : Nat → Nat
  | 0 => 0
  | i + 1 => cnt g i + (if g i then 1 else 0)
theorem cnt_le (g : Nat → Bool) : ∀ i, cnt g i ≤ i
  | 0 => Nat.le_refl _
  | i + 1 => by have := cnt_le g i; simp only [cnt]; split <;> omega
theorem cnt_mono (g : Nat → Bool) {i j : Nat} (h : i ≤ j) : cnt g i ≤ cnt g j := by
  induction h with
  | refl => exact Nat.le_refl _
  | step _ ih => simp only [cnt]; omega
theorem cnt_true {g : Nat → Bool} {i : Nat} (h : g i = true) : cnt g (i + 1) = cnt g i + 1 := by simp [cnt, h]
theorem cnt_false {g : Nat → Bool} {i : Nat} (h : g i = false) : cnt g (i + 1) = cnt g i := by simp [cnt, h]
structure IsPick (n : Nat) (g : Nat → Bool) (k i : Nat) : Prop where
  lt : i < n
  on : g i = true
  rank : cnt g i = k
theorem IsPick.one {n : Nat} {g : Nat → Bool} {k i j : Nat} (h : IsPick n g k i) (h' : IsPick n g k j) : i = j := by
  rcases Nat.lt_trichotomy i j with l | e | l
  · have := cnt_mono g (show i + 1 ≤ j by omega); rw [cnt_true h.on, h.rank, h'.rank] at this; omega
  · exact e
  · have := cnt_mono g (show j + 1 ≤ i by omega); rw [cnt_true h'.on, h.rank, h'.rank] at this; omega
theorem exists_pick (g : Nat → Bool) (k : Nat) : ∀ n, k < cnt g n → ∃ i, IsPick n g k i
  | 0, h => by simp [cnt] at h
  | n + 1, h => by
    by_cases h1 : k < cnt g n
    · obtain ⟨i, hi⟩ := exists_pick g k n h1
      exact ⟨i, by have := hi.lt; omega, hi.on, hi.rank⟩
    · cases hg : g n with
      | false => rw [cnt_false hg] at h; omega
      | true => rw [cnt_true hg] at h; exact ⟨n, by omega, hg, by omega⟩
def pickOf (n : Nat) (g : Nat → Bool) (place : Int) : Int :=
  if cnt g n = 0 then -1 else
  match (List.range n).find? (fun i => g i && cnt g i == (place % (cnt g n : Int)).toNat) with
  | some i => i
  | none => -1
theorem find_range {p : Nat → Bool} {n i : Nat} (hi : i < n) (hp : p i = true) (h : ∀ j, j < i → p j = false) : (List.range n).find? p = some i := by
  rw [List.find?_range_eq_some]
  exact ⟨hp, by simpa using hi, fun j hj => by simp [h j hj]⟩
theorem find_range_none {p : Nat → Bool} {n : Nat} (h : ∀ j, j < n → p j = false) : (List.range n).find? p = none := by
  rw [List.find?_eq_none]
  intro x hx
  simp [h x (by simpa using hx)]
theorem pickOf_none {n : Nat} {g : Nat → Bool} {place : Int} (h : cnt g n = 0) : pickOf n g place = -1 := by simp [pickOf, h]
theorem pickOf_some {n : Nat} {g : Nat → Bool} {place : Int} {k i : Nat} (h0 : cnt g n ≠ 0) (hk : place % (cnt g n : Int) = k) (h : IsPick n g k i) : pickOf n g place = i := by
  have hf := find_range (p := fun i => g i && cnt g i == (place % (cnt g n : Int)).toNat) h.lt (by simp [h.on, h.rank, hk]) (fun j hj => by
    cases hg : g j with
    | false => rfl
    | true =>
      have := cnt_mono g (show j + 1 ≤ i by omega)
      rw [cnt_true hg, h.rank] at this
      simp [hk]; omega)
  simp only [pickOf, h0, if_false, hf]
theorem emod_cnt {c : Nat} (place : Int) (h0 : c ≠ 0) : ∃ k : Nat, place % (c : Int) = k ∧ k < c := by
  have h1 := Int.emod_nonneg place (show (c : Int) ≠ 0 by omega)
  have h2 := Int.emod_lt_of_pos place (show 0 < (c : Int) by omega)
  exact ⟨(place % (c : Int)).toNat, by omega, by omega⟩
def behindOf (n : Nat) (g : Nat → Bool) (hand : Int) : Int :=
  match (List.range n).find? (fun i => g (((hand + 1).toNat + i) % n)) with
  | some i => (((hand + 1).toNat + i) % n : Nat)
  | none => -1
theorem behindOf_some {n : Nat} {g : Nat → Bool} {hand : Int} {i : Nat} (hi : i < n) (hg : g (((hand + 1).toNat + i) % n) = true) (h : ∀ j, j < i → g (((hand + 1).toNat + j) % n) = false) :
    behindOf n g hand = (((hand + 1).toNat + i) % n : Nat) := by
  simp only [behindOf, find_range (p := fun i => g (((hand + 1).toNat + i) % n)) hi hg h]
theorem behindOf_none {n : Nat} {g : Nat → Bool} {hand : Int} (h : ∀ j, j < n → g (((hand + 1).toNat + j) % n) = false) : behindOf n g hand = -1 := by
  simp only [behindOf, find_range_none (p := fun i => g (((hand + 1).toNat + i) % n)) h]
theorem behindOf_first {n : Nat} {g : Nat → Bool} {p : Nat} (h : IsPick n g 0 p) : behindOf n g (-1) = p := by
  have hp := h.lt
  have e : ∀ j, j < n → ((-1 + 1 : Int).toNat + j) % n = j := fun j hj => by simp [Nat.mod_eq_of_lt hj]
  rw [behindOf_some (i := p) hp (by rw [e p hp]; exact h.on) (fun j hj => by
    rw [e j (by omega)]
    cases hg : g j with
    | false => rfl
    | true => have := cnt_mono g (show j + 1 ≤ p by omega); rw [cnt_true hg, h.rank] at this; omega), e p hp]
theorem behindOf_next {n : Nat} {g : Nat → Bool} {j h p : Nat} (hh : IsPick n g j h) (hp : IsPick n g (j + 1) p) : behindOf n g h = p := by
  have l1 := hh.lt
  have l2 := hp.lt
  have lt : h < p := by
    rcases Nat.lt_or_ge h p with l | l
    · exact l
    · have := cnt_mono g l; rw [hh.rank, hp.rank] at this; omega
  have e : ∀ i, h + 1 + i < n → (((h : Int) + 1).toNat + i) % n = h + 1 + i := fun i hi => by
    rw [show ((h : Int) + 1).toNat = h + 1 by omega, Nat.mod_eq_of_lt hi]
  rw [behindOf_some (i := p - h - 1) (by omega) (by rw [e _ (by omega), show h + 1 + (p - h - 1) = p by omega]; exact hp.on) (fun i hi => by
    rw [e i (by omega)]
    cases hg : g (h + 1 + i) with
    | false => rfl
    | true =>
      have a := cnt_mono g (show h + 1 ≤ h + 1 + i by omega)
      have b := cnt_mono g (show h + 1 + i + 1 ≤ p by omega)
      rw [cnt_true hh.on, hh.rank] at a
      rw [cnt_true hg, hp.rank] at b
      omega), e _ (by omega), show h + 1 + (p - h - 1) = p by omega]
theorem pickOf_ok {n : Nat} {g : Nat → Bool} (place : Int) : pickOf n g place = -1 ∧ cnt g n = 0 ∨ ∃ i : Nat, pickOf n g place = i ∧ i < n ∧ g i = true := by
  by_cases h0 : cnt g n = 0
  · exact .inl ⟨pickOf_none h0, h0⟩
  · obtain ⟨k, hk, hl⟩ := emod_cnt place h0
    obtain ⟨i, hi⟩ := exists_pick g k n hl
    exact .inr ⟨i, pickOf_some h0 hk hi, hi.lt, hi.on⟩
theorem cnt_zero {g : Nat → Bool} {n : Nat} (h : cnt g n = 0) : ∀ i, i < n → g i = false := by
  intro i hi
  cases hg : g i with
  | false => rfl
  | true => have := cnt_mono g (show i + 1 ≤ n by omega); rw [cnt_true hg] at this; omega
theorem cnt_none {g : Nat → Bool} {n : Nat} (h : ∀ i, i < n → g i = false) : cnt g n = 0 := by
  induction n with
  | zero => rfl
  | succ n ih => rw [cnt_false (h n (by omega)), ih (fun i hi => h i (by omega))]
theorem behindOf_ok {n : Nat} {g : Nat → Bool} (hand : Int) : behindOf n g hand = -1 ∧ cnt g n = 0 ∨ ∃ i : Nat, behindOf n g hand = i ∧ i < n ∧ g i = true := by
  by_cases h : ∃ j, j < n ∧ g (((hand + 1).toNat + j) % n) = true
  · right
    unfold behindOf
    cases hf : (List.range n).find? (fun i => g (((hand + 1).toNat + i) % n)) with
    | none =>
      obtain ⟨j, hj, hg⟩ := h
      rw [List.find?_eq_none] at hf
      exact absurd hg (by simpa using hf j (by simpa using hj))
    | some i =>
      have h1 := List.find?_some hf
      have h2 := List.mem_of_find?_eq_some hf
      have : 0 < n := by have := List.mem_range.1 h2; omega
      exact ⟨_, rfl, Nat.mod_lt _ this, h1⟩
  · left
    have hn : ∀ j, j < n → g (((hand + 1).toNat + j) % n) = false := fun j hj => by
      cases hg : g (((hand + 1).toNat + j) % n) with
      | false => rfl
      | true => exact absurd ⟨j, hj, hg⟩ h
    refine ⟨behindOf_none hn, cnt_none fun i hi => ?_⟩
    -- i is met at j = (i + n - s % n) % n
    have hs : (hand + 1).toNat % n < n := Nat.mod_lt _ (by omega)
    have key : ∃ j, j < n ∧ ((hand + 1).toNat + j) % n = i := by
      generalize hsd : (hand + 1).toNat % n = s at hs
      by_cases hsi : s ≤ i
      · refine ⟨i - s, by omega, ?_⟩
        rw [Nat.add_mod, hsd, Nat.mod_eq_of_lt (show i - s < n by omega), show s + (i - s) = i by omega, Nat.mod_eq_of_lt hi]
      · refine ⟨i + n - s, by omega, ?_⟩
        rw [Nat.add_mod, hsd, Nat.mod_eq_of_lt (show i + n - s < n by omega), show s + (i + n - s) = i + n by omega, Nat.add_mod_right, Nat.mod_eq_of_lt hi]
    obtain ⟨j, hj, rfl⟩ := key
    exact hn j hj
end
section
theorem cnt_upd {L : Nat → Bool} {i : Nat} (hi : L i = false) : ∀ n, cnt (fun j => !(upd L i true) j) n + (if i < n then 1 else 0) = cnt (fun j => !L j) n
  | 0 => by simp [cnt]
  | n + 1 => by
    have ih := cnt_upd hi n
    simp only [cnt]
    by_cases h : n = i
    · subst h
      simp only [upd_same, Nat.lt_irrefl, if_false, Nat.add_zero] at ih ⊢
      simp [hi, ih]
    · have hu : upd L i true n = L n := upd_other _ _ h
      have : (i < n + 1) = (i < n) := by apply propext; omega
      simp only [this, hu]
      omega
def lis (listed : Array Bool) : Nat → Bool := fun i => listed.getD i false
theorem lis_set {listed : Array Bool} {i : Nat} (hi : i < listed.size) : lis (listed.setIfInBounds i true) = upd (lis listed) i true := by
  funext j
  by_cases h : j = i
  · subst h; simp [lis, hi]
  · rw [upd_other _ _ h]
    simp [lis, Array.getElem?_setIfInBounds_ne (Ne.symm h)]
section
variable {P : Program} {ops : Array Oper} {Q : Exit → Act → World → Prop} {md : Region.Mode}
theorem wpAny_inv (hg : ∀ (i : Nat) (o : Oper), ops[i]? = some o → o.guard = none) (hback : ∀ (i : Nat) (o : Oper), ops[i]? = some o → ∀ e ∈ o.after, Region.binds md e = true → e.on < i) (I : (Nat → Bool) → Act → World → Prop)
    (hstep : ∀ (L : Nat → Bool) (a : Act) (w : World) (i : Nat) (o : Oper), I L a w → ops[i]? = some o → L i = false → (∀ e ∈ o.after, Region.binds md e = true → L e.on = true) → o.wp P a w (fun a' w' => I (upd L i true) a' w') Q)
    (hend : ∀ (L : Nat → Bool) (a : Act) (w : World), I L a w → (∀ i, i < ops.size → L i = true) → Q .normal a w) :
    ∀ fuel listed a w, listed.size = ops.size → cnt (fun i => !(lis listed) i) ops.size ≤ fuel → I (lis listed) a w → wpAny P md ops Q fuel listed a w := by
  have none_ready : ∀ listed : Array Bool, listed.size = ops.size → Region.ready md ops listed = [] → ∀ i, i < ops.size → lis listed i = true := by
    intro listed hsz hr i
    induction i using Nat.strongRecOn with
    | ind i ih =>
      intro hi
      cases hl : lis listed i with
      | true => rfl
      | false =>
        exfalso
        have hm : i ∈ Region.ready md ops listed := by
          rw [mem_ready]
          refine ⟨?_, ops[i], by simp [hi], fun e he hb => ?_⟩
          · have hlt : i < listed.size := by omega
            simp only [lis] at hl
            simpa [hlt] using hl
          · have hlt := hback i ops[i] (by simp [hi]) e he hb
            exact ih e.on hlt (by omega)
        rw [hr] at hm
        cases hm
  intro fuel
  induction fuel with
  | zero =>
    intro listed a w hsz hc hI
    have hall : ∀ i, i < ops.size → lis listed i = true := fun i hi => by
      have := cnt_zero (g := fun i => !(lis listed) i) (n := ops.size) (by omega) i hi
      simpa using this
    refine ⟨?_, hend _ a w hI hall⟩
    cases hr : Region.ready md ops listed with
    | nil => rfl
    | cons x xs =>
      exfalso
      have hx : x ∈ Region.ready md ops listed := by rw [hr]; simp
      rw [mem_ready] at hx
      obtain ⟨h0, o, ho, _⟩ := hx
      have hlt : x < ops.size := (Array.getElem?_eq_some_iff.1 ho).1
      have := hall x hlt
      have hlt' : x < listed.size := by omega
      simp [lis, hlt'] at this
      simp [hlt'] at h0
      rw [h0] at this
      cases this
  | succ fuel ih =>
    intro listed a w hsz hc hI
    refine ⟨fun hr => hend _ a w hI (none_ready listed hsz hr), fun i hi => ?_⟩
    rw [mem_ready] at hi
    obtain ⟨h0, o, ho, hdep⟩ := hi
    have hlt : i < ops.size := (Array.getElem?_eq_some_iff.1 ho).1
    have hlt' : i < listed.size := by omega
    have hf : lis listed i = false := by simp [hlt'] at h0; simp [lis, hlt', h0]
    have hs := hstep (lis listed) a w i o hI ho hf hdep
    unfold wpOp
    simp only [ho]
    have hw : Region.wanted o (yielded ops a.tmps) = true := by simp [Region.wanted, hg i o ho]
    rw [if_pos hw]
    left
    refine Oper.wp_mono (fun a' w' h => ?_) hs
    refine ih _ a' w' (by simpa using hsz) ?_ (by rw [lis_set hlt']; exact h)
    rw [lis_set hlt']
    have := cnt_upd hf ops.size
    rw [if_pos hlt] at this
    omega
theorem region_inv {id : Nat} {a : Act} {w : World} (hm : P.follows .mixedOrders = true) (hg : ∀ (i : Nat) (o : Oper), ops[i]? = some o → o.guard = none) (hback : ∀ (i : Nat) (o : Oper), ops[i]? = some o → ∀ e ∈ o.after, Region.binds .any e = true → e.on < i) (I : (Nat → Bool) → Act → World → Prop)
    (hstep : ∀ (L : Nat → Bool) (a : Act) (w : World) (i : Nat) (o : Oper), I L a w → ops[i]? = some o → L i = false → (∀ e ∈ o.after, Region.binds .any e = true → L e.on = true) → o.wp P a w (fun a' w' => I (upd L i true) a' w') Q)
    (hend : ∀ (L : Nat → Bool) (a : Act) (w : World), I L a w → (∀ i, i < ops.size → L i = true) → Q .normal a w)
    (h0 : I (fun _ => false) a { w with drawn := w.drawn + 1 }) : (Code.region id ops true).wp P Q a w := by
  refine wp_region_any hm (wpAny_inv hg hback I hstep hend _ _ a _ (by simp) ?_ ?_)
  · exact cnt_le _ _
  · have : lis (Array.replicate ops.size false) = fun _ => false := by
      funext i
      simp [lis, Array.getElem?_replicate]
      split <;> rfl
    rw [this]
    exact h0
end
end
end Go.Proofs.YtidihnnmdmlgfaaGreat
