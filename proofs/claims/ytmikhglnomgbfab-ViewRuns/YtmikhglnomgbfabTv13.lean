/-
  Lemmas: RLaid, RTk, RDone, RDone2, RDone3, RRows.
-/
import Derived.Test.YtmikhglnomgbfabTv12
import Derived.Deep.Light
import Derived.Deep.RegionLaw
import Derived.Deep.AppendLies
import Derived.Test.YtmikhglnomgbfabTv05
/-
  The reference's run: a task laid under way, a step done, what is told.
-/
namespace Go.Proofs.Ytmikhglnomgbfab
open Go.RowKit
set_option linter.unusedVariables false
set_option linter.unusedSimpArgs false
set_option linter.unnecessarySimpa false
set_option maxRecDepth 20000
open Beg
theorem rangeAt_block {w w' : World} {b o : Nat} {cs : List Value} (h : w.rangeAt b o cs) (e : w'.heap[b]? = w.heap[b]?) : w'.rangeAt b o cs := fun j v hv => by
  rw [World.cell?_of_block (a := ⟨b, o + j, none⟩) e]; exact h j v hv
theorem there_block {w w' : World} {b o n : Nat} (h : w.there b o n) (e : w'.heap[b]? = w.heap[b]?) : w'.there b o n := fun j hj => by
  rw [World.cell?_of_block (a := ⟨b, o + j, none⟩) e, World.frozen?_of_block (a := ⟨b, o + j, none⟩) e]; exact h j hj
theorem rowIs.there {w : World} {b n o m : Nat} {t : TypeId} {f : Nat → Value} (h : w.rowIs b t n f) (hm : o + m ≤ n) : w.there b o m := fun j hj =>
  ⟨by rw [h.cell (i := o + j) (by omega)]; rfl, h.frozen _⟩
theorem rowIs.setCells {b n : Nat} {t : TypeId} : ∀ (vs : List Value) (o : Nat) (w : World) (f : Nat → Value), w.rowIs b t n f → (w.setCells b o vs).rowIs b t n (fun i => if o ≤ i ∧ i < o + vs.length then vs[i - o]?.getD default else f i)
  | [], o, w, f, h => h.congr (fun i hi => by simp; intros; omega)
  | v :: r, o, w, f, h => by
    rw [World.setCells]
    refine (rowIs.setCells r (o + 1) _ _ (h.set o v)).congr (fun i hi => ?_)
    by_cases h1 : i = o
    · subst h1; simp; intro h3; omega
    · by_cases h2 : o + 1 ≤ i ∧ i < o + 1 + r.length
      · rw [if_pos h2, if_pos (by simp; omega)]
        have : i - o = (i - (o + 1)) + 1 := by omega
        rw [this]; simp
      · rw [if_neg h2]; simp only [h1, if_false]; rw [if_neg (by simp only [List.length_cons]; omega)]
section
variable {Q : Program} {fn : Func} {tmps : Array Value} {W : World} {v u : Value} {a a' : Addr} {t t' t'' : Nat} {ty ty' : TypeId}
end
variable {K : Kd} {rep : List Value → K.σ → Prop} {P : Par} {blk : Rl → Nat} {c : Rl → Option Row} {st : St K} {un : Nat → Bool} {capw : Nat} {sv : Value} {w : World} {base B : Nat} {aoh aos : Option Addr} {caph caps : Nat} {sh : Shp} {la : Int}
end Go.Proofs.Ytmikhglnomgbfab
/-
  The reference's tasks as lists of cells.
-/
namespace Go.Proofs.Ytmikhglnomgbfab
open Go.RowKit
set_option linter.unusedVariables false
set_option linter.unusedSimpArgs false
set_option linter.unnecessarySimpa false
set_option maxRecDepth 20000
structure Rg where
  r0 : Int
  r1 : Int
  r2 : Int
  r3 : Int
  r4 : Int
  r5 : Int
  r6 : Int
  r7 : Int
def Rg.zero : Rg := ⟨0, 0, 0, 0, 0, 0, 0, 0⟩
def tk (s : Shp) (hand : Int) (j : Jb) (stt : Int) (r : Rg) (an : Ans) : List Value :=
  [.int .i64 s.a, .int .i64 s.b, .int .i64 s.c, .int .i64 s.d, .int .i64 s.e, .int .i64 s.f, .int .i64 hand, .int .i64 j.kind, .int .i64 j.a, .int .i64 j.b, .int .i64 j.c, .int .u64 j.h, .int .i64 stt,
   .int .u64 r.r0, .int .u64 r.r1, .int .u64 r.r2, .int .u64 r.r3, .int .u64 r.r4, .int .u64 r.r5, .int .u64 r.r6, .int .u64 r.r7, .slice none 0 0, .bool an.ok, .int .u64 an.val, .int .u64 0, .int .u64 0, .int .u64 0, .int .u64 0]
def Shp.zero : Shp := ⟨0, 0, 0, 0, 0, 0⟩
def kept0 : Value := .agg #[.int .u64 0, .int .u64 0, .int .u64 0, .int .u64 0]
def tk0 : List Value := [.int .i64 0, .int .i64 0, .int .i64 0, .int .i64 0, .int .i64 0, .int .i64 0, .int .i64 0, .int .i64 0, .int .i64 0, .int .i64 0, .int .i64 0, .int .u64 0, .int .i64 0, .int .u64 0, .int .u64 0, .int .u64 0, .int .u64 0, .int .u64 0, .int .u64 0, .int .u64 0, .int .u64 0, .slice none 0 0, .bool false, .int .u64 0, .int .u64 0, .int .u64 0, .int .u64 0, .int .u64 0]
end Go.Proofs.Ytmikhglnomgbfab
/-
  The reference's run behind a step.
-/
namespace Go.Proofs.Ytmikhglnomgbfab
open Go.RowKit
set_option linter.unusedVariables false
set_option linter.unusedSimpArgs false
set_option linter.unnecessarySimpa false
set_option maxRecDepth 20000
open Beg
variable {K : Kd} {rep : List Value → K.σ → Prop} {P : Par} {blk blk' : Rl → Nat} {c c' : Rl → Option Row} {st : St K} {un : Nat → Bool} {capw : Nat} {sv sv' : Value} {w : World} {base B : Nat} {aoh aos : Option Addr} {caph caps : Nat} {sh : Shp} {la : Int} {h : Nat} {x : Stp} {f' : Nat → Int} {cs : List Value}
def St.with (st : St K) (f' : Nat → Int) : St K := { st with f := f' }
def bare (c : Rl → Option Row) : Rl → Option Row := fun r => match r with | .task _ _ => none | r => c r
theorem Has.bare {w : World} {base : Nat} {blk : Rl → Nat} {c : Rl → Option Row} (h : Has w base blk c) : Has w base blk (bare c) := h.weaken (fun r x e => by
  cases r <;> first | exact e | cases e)
def lrow (l : List Value) : Nat → Value := fun i => l[i]?.getD default
theorem lrow_of {l : List Value} {i : Nat} {v : Value} (h : l[i]? = some v) : lrow l i = v := by simp [lrow, h]
theorem boxes {w : World} {base : Nat} {blk : Rl → Nat} {c : Rl → Option Row} (H : Has w base blk c) (hb : base ≤ w.heap.size) (l0 l1 l2 l3 : List Value) (t0 t1 t2 t3 : TypeId) :
    Has ((((w.alloc (.cells l0.toArray t0)).alloc (.cells l1.toArray t1)).alloc (.cells l2.toArray t2)).alloc (.cells l3.toArray t3)) base
      (upd (upd (upd (upd blk (.task 0 0) w.heap.size) (.task 0 1) (w.heap.size + 1)) (.task 0 2) (w.heap.size + 2)) (.task 0 3) (w.heap.size + 3))
      (upd (upd (upd (upd (bare c) (.task 0 0) (some ⟨t0, l0.length, lrow l0⟩)) (.task 0 1) (some ⟨t1, l1.length, lrow l1⟩)) (.task 0 2) (some ⟨t2, l2.length, lrow l2⟩)) (.task 0 3) (some ⟨t3, l3.length, lrow l3⟩)) := by
  have row : ∀ (w : World) (l : List Value) (t : TypeId), (w.alloc (.cells l.toArray t)).rowIs w.heap.size t l.length (lrow l) := fun w l t => World.rowIs_alloc' w l.toArray t l.length (by simp) (fun i hi => by simp [lrow, hi])
  have one : ∀ {w : World} {blk : Rl → Nat} {c : Rl → Option Row} (H : Has w base blk c) (hb : base ≤ w.heap.size) (r : Rl) (l : List Value) (t : TypeId) {n : Nat}, w.heap.size = n → Has (w.alloc (.cells l.toArray t)) base (upd blk r n) (upd c r (some ⟨t, l.length, lrow l⟩)) := fun {w} {blk} {c} H hb r l t {n} hn => by
    subst hn
    exact H.add r w.heap.size _ hb (Nat.le_refl _) (S := fun _ => False) ((Touch.refl w _).alloc _) (fun _ _ _ _ => id) (row w l t)
  exact one (one (one (one H.bare hb _ l0 t0 rfl) (by simp; omega) _ l1 t1 (by simp)) (by simp; omega) _ l2 t2 (by simp)) (by simp; omega) _ l3 t3 (by simp)
end Go.Proofs.Ytmikhglnomgbfab
/-
  middenref03's Run.Done, where the task goes on.
-/
namespace Go.Proofs.Ytmikhglnomgbfab
open Go.RowKit
set_option linter.unusedVariables false
set_option linter.unusedSimpArgs false
set_option linter.unnecessarySimpa false
set_option maxRecDepth 20000
open Beg
variable {K : Kd} {rep : List Value → K.σ → Prop} {P : Par} {blk blk' : Rl → Nat} {c c' : Rl → Option Row} {st : St K} {un : Nat → Bool} {capw : Nat} {sv sv' : Value} {w : World} {base B : Nat} {aoh aos : Option Addr} {caph caps : Nat} {sh : Shp} {la : Int} {h : Nat} {x : Stp} {f' : Nat → Int} {cs : List Value}
def Own (blk : Rl → Nat) (c : Rl → Option Row) : Nat → Prop := fun k => ∃ r y, c r = some y ∧ blk r = k
def zRun : List Value := [.int .i64 0, .int .i64 0, .int .i64 0, .int .i64 0, .int .i64 0, .int .i64 0, .slice none 0 0, .slice none 0 0, .slice none 0 0, .slice none 0 0, .slice none 0 0, .slice none 0 0, .slice none 0 0, .slice none 0 0, .int .i64 0]
theorem Has.setCells {w : World} {base : Nat} {blk : Rl → Nat} {c : Rl → Option Row} {r : Rl} {t : TypeId} {n : Nat} {F : Nat → Value} (H : Has w base blk c) (e : c r = some ⟨t, n, F⟩) (o : Nat) (vs : List Value) :
    Has (w.setCells (blk r) o vs) base blk (upd c r (some ⟨t, n, fun i => if o ≤ i ∧ i < o + vs.length then vs[i - o]?.getD default else F i⟩)) :=
  H.write r _ e (touch_setCells _ _ _ _) (rowIs.setCells vs o w F (H.row _ _ e))
end Go.Proofs.Ytmikhglnomgbfab
/-
  middenref03's Run.Done, where the task goes on.
-/
namespace Go.Proofs.Ytmikhglnomgbfab
open Go.RowKit
set_option linter.unusedVariables false
set_option linter.unusedSimpArgs false
set_option linter.unnecessarySimpa false
set_option maxRecDepth 20000
open Beg
variable {K : Kd} {rep : List Value → K.σ → Prop} {P : Par} {blk blk' : Rl → Nat} {c c' : Rl → Option Row} {st : St K} {un : Nat → Bool} {capw : Nat} {sv sv' : Value} {w : World} {base B : Nat} {aoh aos : Option Addr} {caph caps : Nat} {sh : Shp} {la : Int} {h : Nat} {x : Stp} {f' : Nat → Int} {cs : List Value}
end Go.Proofs.Ytmikhglnomgbfab
/-
  Rows of cells as lists.
-/
namespace Go.Proofs.Ytmikhglnomgbfab
open Go.RowKit
set_option linter.unusedVariables false
set_option linter.unusedSimpArgs false
set_option linter.unnecessarySimpa false
set_option maxRecDepth 20000
open Beg
theorem rowIs.range {w : World} {b : Nat} {t : TypeId} {n : Nat} {l : List Value} (h : w.rowIs b t n (lrow l)) (hl : l.length = n) : w.rangeAt b 0 l := fun j v hv => by
  have hj := (List.getElem?_eq_some_iff.1 hv).1
  rw [Nat.zero_add, h.cell (i := j) (by omega), lrow_of hv]
theorem rowL_alloc (w : World) (l : List Value) (t : TypeId) {n : Nat} (hn : l.length = n) : (w.alloc (.cells l.toArray t)).rowIs w.heap.size t n (lrow l) := World.rowIs_alloc' w l.toArray t n (by simpa using hn) (fun i hi => by simp [lrow, hn, hi])
end Go.Proofs.Ytmikhglnomgbfab
