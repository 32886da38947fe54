/-
  Lemmas: Along.
-/
import Derived.Test.YtppgbndoijppnaaGreatTp05
import Derived.RegionTactic
import Derived.RegionCalls
import Derived.BigQuiet
import Derived.ChangeAlike
import Derived.Deep.RegionHeldLaw
import Derived.Deep.Light
namespace Go.Proofs.YtppgbndoijppnaaGreat
set_option maxHeartbeats 8000000
open Go.RowKit
set_option linter.unusedVariables false
set_option linter.unusedSimpArgs false
set_option maxRecDepth 20000
section
namespace Hp
abbrev Form := (Nat → Nat) → (Nat → Option Row) → Prop
structure Lay (L : Form) (w : World) (B : Nat → Nat) (R : Nat → Option Row) : Prop where
 lies : L B R
 row : ∀ i x, R i = some x → w.rowIs (B i) x.t x.n x.f
 inj : ∀ i i' x x', R i = some x → R i' = some x' → B i = B i' → i = i'
namespace Lay
variable {L L' : Form} {w w' : World} {B : Nat → Nat} {R : Nat → Option Row} {S : Nat → Prop}
theorem lt (h : Lay L w B R) {i : Nat} {x : Row} (e : R i = some x) : B i < w.heap.size := (h.row i x e).lt
theorem touch (h : Lay L w B R) (ht : Touch w w' S) (hs : ∀ i x, R i = some x → ¬ S (B i)) : Lay L w' B R := ⟨h.lies, fun i x e => (h.row i x e).of_block (ht.block _ (h.lt e) (hs i x e)), h.inj⟩
theorem below (h : Lay L w B R) (hb : Below w.heap.size w w') : Lay L w' B R := h.touch (Touch.of_below hb (fun _ => False)) (fun _ _ _ => id)
end Lay
def Of (B : Nat → Nat) (R : Nat → Option Row) (k : Nat) : Prop := ∃ i x, R i = some x ∧ k = B i
structure Post (L' : Form) (w : World) (B : Nat → Nat) (R : Nat → Option Row) (w' : World) (B' : Nat → Nat) (R' : Nat → Option Row) (S : Nat → Prop) : Prop where
 own : B' 0 = B 0
 lay : Lay L' w' B' R'
 old : ∀ i x, R' i = some x → Of B R (B' i) ∨ w.heap.size ≤ B' i
 tch : Touch w w' (fun k => S k ∨ Of B R k)
namespace Post
variable {L' : Form} {w wa w1 w2 : World} {B B' : Nat → Nat} {R R' : Nat → Option Row} {S : Nat → Prop}
theorem wrap (P : Post L' wa B R w1 B' R' S) (ha : Below w.heap.size w wa) (hR : ∀ i x, R i = some x → B i < w.heap.size) (ht : Touch w1 w2 (fun k => w.heap.size ≤ k ∧ k < wa.heap.size)) : Post L' w B R w2 B' R' S := by
 have hs := ha.size
 have old : ∀ i x, R' i = some x → Of B R (B' i) ∨ w.heap.size ≤ B' i := fun i x e => (P.old i x e).elim .inl (fun h => .inr (by omega))
 refine ⟨P.own, P.lay.touch ht (fun i x e => ?_), old, ?_⟩
 ·rintro ⟨h1, h2⟩
  rcases P.old i x e with ⟨i0, x0, e0, e1⟩ | h
  ·have := hR i0 x0 e0; omega
  ·omega
 ·refine (Touch.of_below ha _).trans' (S := fun k => S k ∨ Of B R k) (S' := fun k => (S k ∨ Of B R k) ∨ w.heap.size ≤ k) ?_ (fun i hi h => h.elim id (fun h => by omega))
  exact (P.tch.mono (fun k _ h => .inl h)).trans' (S' := fun k => w.heap.size ≤ k ∧ k < wa.heap.size) ht (fun i _ h => .inr h.1)
end Post
theorem isMem_touch {w w' : World} {bm bw n : Nat} {f : Nat → Int} {S : Nat → Prop} (h : IsMem w bm bw n f) (ht : Touch w w' S) (h1 : ¬ S bm) (h2 : ¬ S bw) : IsMem w' bm bw n f :=
 ⟨h.head.of_block (ht.block _ h.head.lt h1), h.row.of_block (ht.block _ h.row.lt h2), h.most, h.word⟩
def zstep : Obj := .cells #[.int .i64 0, .int .i64 0, .int .i64 0, .int .u64 0, .int .u64 0, .bool false] 69
theorem zrow (w : World) : (w.alloc zstep).rowIs w.heap.size 69 6 zcell := row0 w
theorem zfacts {w : World} {r : Nat} {f : Nat → Value} (h : w.rowIs r 69 6 f) : (w.cell? ⟨r, 0, none⟩ = some (f 0) ∧ w.frozen? ⟨r, 0, none⟩ = false) ∧ (w.cell? ⟨r, 1, none⟩ = some (f 1) ∧ w.frozen? ⟨r, 1, none⟩ = false) ∧ (w.cell? ⟨r, 2, none⟩ = some (f 2) ∧ w.frozen? ⟨r, 2, none⟩ = false) ∧
  (w.cell? ⟨r, 3, none⟩ = some (f 3) ∧ w.frozen? ⟨r, 3, none⟩ = false) ∧ (w.cell? ⟨r, 4, none⟩ = some (f 4) ∧ w.frozen? ⟨r, 4, none⟩ = false) ∧ (w.cell? ⟨r, 5, none⟩ = some (f 5) ∧ w.frozen? ⟨r, 5, none⟩ = false) :=
 ⟨⟨h.cell (i := 0) (by omega), h.frozen 0⟩, ⟨h.cell (i := 1) (by omega), h.frozen 1⟩, ⟨h.cell (i := 2) (by omega), h.frozen 2⟩, ⟨h.cell (i := 3) (by omega), h.frozen 3⟩, ⟨h.cell (i := 4) (by omega), h.frozen 4⟩, ⟨h.cell (i := 5) (by omega), h.frozen 5⟩⟩
theorem wstep {w : World} {b : Nat} {p : Addr} {mem : Value} {F : FuncId} {x : Stp} {en : Int} {Q : World → Prop} (hF : ∀ (args : Array Value) (w : World), (callFunc F args).run Tryz.prog w = .ok (.enter F args) w)
  (hb : b < w.heap.size) (c1 : w.cell? ⟨b, 1, none⟩ = some (.func (.func F) #[.pointer (some p)] #[])) (hQ : ∀ w1, Q w1 → w.heap.size < w1.heap.size ∧ w1.heap[w.heap.size]? = (w.alloc zstep).heap[w.heap.size]?)
  (KF : Calls Tryz.prog F #[.pointer (some p), mem] (w.alloc zstep) fun e w' => e = .returned (.tuple #[x.val, .int .i64 en]) ∧ Q w') :
  Calls Tryz.prog 164 #[.pointer (some ⟨b, 0, none⟩), mem] w fun e w' => e = .returned (.tuple #[x.val, .int .i64 en]) ∧ ∃ w1, Q w1 ∧ Touch w1 w' (fun k => k = w.heap.size) := by
 have c1' : (w.alloc zstep).cell? ⟨b, 1, none⟩ = some (.func (.func F) #[.pointer (some p)] #[]) := by rw [World.cell?_alloc_past _ _ _ hb]; exact c1
 have HZ := hide (zrow w)
 have HQ := hide hQ
 have K := hide KF
 clear KF hQ c1
 unfold zstep at c1' K
 go_enter Tryz.func164, Tryz.ntmps164
 go_wp2_with fail
 refine K.out.mono ?_
 rintro e w1 ⟨rfl, hq⟩
 simp only [Stp.val]
 have Q1 := hide hq
 obtain ⟨l2, e2⟩ := HQ.out w1 hq
 have RR := hide (HZ.out.of_block e2)
 clear hq e2 K HQ c1'
 obtain ⟨⟨r0, rf0⟩, ⟨r1, rf1⟩, ⟨r2, rf2⟩, ⟨r3, rf3⟩, ⟨r4, rf4⟩, r5, rf5⟩ := zfacts RR.out
 simp only [zcell] at r0 r1 r2 r3 r4 r5
 go_wp2_with fail
 go_light
 refine bodyPost_ret (v := .tuple #[x.val, .int .i64 en]) ?res rfl ⟨rfl, w1, Q1.out, ?tch⟩
 case tch =>
  repeat (with_reducible refine Touch.setCell ?_ _ ?side _; case side => (first | (simp; done) | (simp; omega)))
  exact Touch.refl w1 _
 case res => simp [results, Tryz.results164, go_sem, Stp.val, *]
theorem along_goes {w : World} {b pb : Nat} {mem : Value} {tid : TypeId} {fs : FuncId} {x : Stp} {Q : World → Prop} (hF : ∀ (args : Array Value) (w : World), (callFunc fs args).run Tryz.prog w = .ok (.enter fs args) w)
  (hm : ∀ w : World, (method 321 tid (.pointer (some ⟨pb, 0, none⟩)) "Step").run Tryz.prog w = .ok (fs, .pointer (some ⟨pb, 0, none⟩)) w)
  (hb : b < w.heap.size) (c2 : w.cell? ⟨b, 2, none⟩ = some (.iface tid (.pointer (some ⟨pb, 0, none⟩)))) (hQ : ∀ w1, Q w1 → w.heap.size < w1.heap.size ∧ w1.heap[w.heap.size]? = (w.alloc zstep).heap[w.heap.size]?)
  (KF : Calls Tryz.prog fs #[.pointer (some ⟨pb, 0, none⟩), mem] (w.alloc zstep) fun e w' => e = .returned (.tuple #[x.val, .int .i64 0]) ∧ Q w') :
  Calls Tryz.prog 93 #[.pointer (some ⟨b, 0, none⟩), mem] w fun e w' => e = .returned (.tuple #[x.val, .int .i64 0]) ∧ ∃ w1, Q w1 ∧ Touch w1 w' (fun k => k = w.heap.size) := by
 have c2' : (w.alloc zstep).cell? ⟨b, 2, none⟩ = some (.iface tid (.pointer (some ⟨pb, 0, none⟩))) := by rw [World.cell?_alloc_past _ _ _ hb]; exact c2
 have HZ := hide (zrow w)
 have HQ := hide hQ
 have K := hide KF
 clear KF hQ c2
 unfold zstep at c2' K
 go_enter Tryz.func93, Tryz.ntmps93
 go_wp2_with fail
 refine K.out.mono ?_
 rintro e w1 ⟨rfl, hq⟩
 simp only [Stp.val]
 have Q1 := hide hq
 obtain ⟨l2, e2⟩ := HQ.out w1 hq
 have RR := hide (HZ.out.of_block e2)
 clear hq e2 K HQ c2'
 obtain ⟨⟨r0, rf0⟩, ⟨r1, rf1⟩, ⟨r2, rf2⟩, ⟨r3, rf3⟩, ⟨r4, rf4⟩, r5, rf5⟩ := zfacts RR.out
 simp only [zcell] at r0 r1 r2 r3 r4 r5
 go_wp2_with fail
 go_light
 refine bodyPost_ret (v := .tuple #[x.val, .int .i64 0]) ?res rfl ⟨rfl, w1, Q1.out, ?tch⟩
 case tch =>
  repeat (with_reducible refine Touch.setCell ?_ _ ?side _; case side => (first | (simp; done) | (simp; omega)))
  with_reducible refine Touch.alloc ?_ _
  repeat (with_reducible refine Touch.setCell ?_ _ ?side _; case side => (first | (simp; done) | (simp; omega)))
  exact Touch.refl w1 _
 case res => simp [results, Tryz.results93, go_sem, Stp.val, *]
end Hp
end
end Go.Proofs.YtppgbndoijppnaaGreat
