/-
  middenref03's Run.Done, where the task goes on.
-/
import Derived.Test.YtdbiphibdaghkaaRDone
import Derived.Test.YtdbiphibdaghkaaSteps0
namespace Go.Proofs.Ytdbiphibdaghkaa
open Go.RowKit
set_option linter.unusedVariables false
set_option linter.unusedSimpArgs false
set_option linter.unnecessarySimpa false
set_option maxRecDepth 20000
open Beg

variable {K : Kd} {rep : List Value → K.σ → Prop} {P : Par} {blk blk' : Rl → Nat} {c c' : Rl → Option Row} {st : St K} {un : Nat → Bool} {capw : Nat} {sv sv' : Value} {w : World} {base B : Nat} {aoh aos : Option Addr} {caph caps : Nat} {sh : Shp} {la : Int} {h : Nat} {x : Stp} {f' : Nat → Int} {cs : List Value}

/-- The run's own blocks. -/
def Own (blk : Rl → Nat) (c : Rl → Option Row) : Nat → Prop := fun k => ∃ r y, c r = some y ∧ blk r = k

def zRun : List Value := [.int .i64 0, .int .i64 0, .int .i64 0, .int .i64 0, .int .i64 0, .int .i64 0, .slice none 0 0, .slice none 0 0, .slice none 0 0, .slice none 0 0, .slice none 0 0, .slice none 0 0, .slice none 0 0, .slice none 0 0, .int .i64 0]

theorem cellOf {w : World} {base : Nat} {blk : Rl → Nat} {c : Rl → Option Row} {r : Rl} {t : TypeId} {n b i : Nat} {F : Nat → Value} {v : Value} (H : Has w base blk c) (e : c r = some ⟨t, n, F⟩) (hb : blk r = b) (hi : i < n) (hv : F i = v) : w.cell? ⟨b, i, none⟩ = some v := by
  subst hb; subst hv; exact H.cell e hi
theorem frozenOf {w : World} {base : Nat} {blk : Rl → Nat} {c : Rl → Option Row} {r : Rl} {y : Row} {b : Nat} (H : Has w base blk c) (e : c r = some y) (hb : blk r = b) (i : Nat) : w.frozen? ⟨b, i, none⟩ = false := by
  subst hb; exact H.frozen e i
theorem rangeOf {w : World} {base : Nat} {blk : Rl → Nat} {c : Rl → Option Row} {r : Rl} {t : TypeId} {n b : Nat} {F : Nat → Value} {l : List Value} (H : Has w base blk c) (e : c r = some ⟨t, n, F⟩) (hb : blk r = b) (hl : l.length = n) (hF : ∀ i v, l[i]? = some v → F i = v) : w.rangeAt b 0 l := fun j v hv => by
  have hj := (List.getElem?_eq_some_iff.1 hv).1
  rw [Nat.zero_add]
  exact cellOf H e hb (by omega) (hF j v hv)
theorem thereOf {w : World} {base : Nat} {blk : Rl → Nat} {c : Rl → Option Row} {r : Rl} {t : TypeId} {n b o m : Nat} {F : Nat → Value} (H : Has w base blk c) (e : c r = some ⟨t, n, F⟩) (hb : blk r = b) (hm : o + m ≤ n) : w.there b o m := by
  subst hb; exact rowIs.there (H.row _ _ e) hm
/-- A row of cells written into a role's block. -/
theorem Has.setCells {w : World} {base : Nat} {blk : Rl → Nat} {c : Rl → Option Row} {r : Rl} {t : TypeId} {n : Nat} {F : Nat → Value} (H : Has w base blk c) (e : c r = some ⟨t, n, F⟩) (o : Nat) (vs : List Value) :
    Has (w.setCells (blk r) o vs) base blk (upd c r (some ⟨t, n, fun i => if o ≤ i ∧ i < o + vs.length then vs[i - o]?.getD default else F i⟩)) :=
  H.write r _ e (touch_setCells _ _ _ _) (rowIs.setCells vs o w F (H.row _ _ e))
end Go.Proofs.Ytdbiphibdaghkaa
