/-
  Lemmas: RDone3.
-/
import Derived.Test.YtgaafdfekgnccaaTp11
/-
  middenref03's Run.Done, where the task goes on.
-/
namespace Go.Proofs.Ytgaafdfekgnccaa
open Go.RowKit
set_option linter.unusedVariables false
set_option linter.unusedSimpArgs false
set_option linter.unnecessarySimpa false
set_option maxRecDepth 20000
open Beg

variable {K : Kd} {rep : List Value → K.σ → Prop} {P : Par} {blk blk' : Rl → Nat} {c c' : Rl → Option Row} {st : St K} {un : Nat → Bool} {capw : Nat} {sv sv' : Value} {w : World} {base B : Nat} {aoh aos : Option Addr} {caph caps : Nat} {sh : Shp} {la : Int} {h : Nat} {x : Stp} {f' : Nat → Int} {cs : List Value}

theorem set2_one {L : List Value} (h : ∀ v ∈ L, v.oneCell' = true) (i j : Nat) (u v : Value) (hu : u.oneCell' = true) (hv : v.oneCell' = true) : ((L.set i u).set j v).toArray.all (·.oneCell') = true :=
  all_oneCell_toArray (fun y hy => by
    rcases List.mem_or_eq_of_mem_set hy with hy | rfl
    · rcases List.mem_or_eq_of_mem_set hy with hy | rfl
      · exact h y hy
      · exact hu
    · exact hv)

theorem Has.congrBlk {w : World} {base : Nat} {blk blk' : Rl → Nat} {c : Rl → Option Row} (h : Has w base blk c) (e : ∀ r x, c r = some x → blk' r = blk r) : Has w base blk' c :=
  ⟨fun r r' x x' h1 h2 h3 => h.inj r r' x x' h1 h2 (by rw [← e r x h1, ← e r' x' h2]; exact h3), fun r x h1 => by rw [e r x h1]; exact h.row r x h1, fun r x h1 => by rw [e r x h1]; exact h.new r x h1⟩

theorem Has.reRow {w : World} {base : Nat} {blk : Rl → Nat} {c : Rl → Option Row} {r : Rl} {t : TypeId} {n : Nat} {F F' : Nat → Value} (h : Has w base blk c) (e : c r = some ⟨t, n, F⟩) (hF : ∀ i, i < n → F i = F' i) : Has w base blk (upd c r (some ⟨t, n, F'⟩)) :=
  h.write r ⟨t, n, F'⟩ e (Touch.refl w _) ((h.row r _ e).congr hF)
theorem upd_upd {ι α : Type} [DecidableEq ι] (g : ι → α) (r : ι) (x y : α) : upd (upd g r x) r y = upd g r y := by
  funext k
  by_cases h : k = r
  · subst h; simp
  · rw [upd_other _ _ h, upd_other _ _ h, upd_other _ _ h]
/-- Two cells of a role's row written: the row's list. -/
theorem two_sets_row {w : World} {base : Nat} {blk : Rl → Nat} {c : Rl → Option Row} {r : Rl} {t : TypeId} {b : Nat} {L : List Value} (H : Has w base blk c) (e : c r = some ⟨t, 15, lrow L⟩) (hb : blk r = b) (hl : L.length = 15) (i j : Nat) (u v : Value) (hij : i ≠ j) :
    Has ((w.setCell ⟨b, i, none⟩ u).setCell ⟨b, j, none⟩ v) base blk (upd c r (some ⟨t, 15, lrow ((L.set i u).set j v)⟩)) := by
  subst hb
  have h1 := (H.set r e i u).set r (upd_same _ _ _) j v
  have h2 := h1.reRow (F' := lrow ((L.set i u).set j v)) (upd_same _ _ _) (fun q hq => by
    by_cases h2 : q = j
    · subst h2; simp [lrow, List.getElem?_set, hl, hq]
    · by_cases h3 : q = i
      · subst h3; simp [lrow, List.getElem?_set, hl, hq, h2, Ne.symm h2]
      · simp [lrow, List.getElem?_set, h2, h3, Ne.symm h2, Ne.symm h3])
  rw [upd_upd, upd_upd] at h2
  exact h2

/-- Two cells of a role's row written; what the row then is. -/
theorem two_sets {w : World} {base : Nat} {blk : Rl → Nat} {c : Rl → Option Row} {r : Rl} {t : TypeId} {b : Nat} {L : List Value} (H : Has w base blk c) (e : c r = some ⟨t, 15, lrow L⟩) (hb : blk r = b) (hl : L.length = 15) (i j : Nat) (u v : Value) (hij : i ≠ j) :
    ∃ c', Has ((w.setCell ⟨b, i, none⟩ u).setCell ⟨b, j, none⟩ v) base blk c' ∧ ((w.setCell ⟨b, i, none⟩ u).setCell ⟨b, j, none⟩ v).rangeAt b 0 ((L.set i u).set j v) ∧ (∃ y, c' r = some y) ∧ ∀ r', r' ≠ r → c' r' = c r' := by
  subst hb
  have h1 := (H.set r e i u).set r (upd_same _ _ _) j v
  refine ⟨_, h1, rangeOf h1 (upd_same _ _ _) rfl (by simp [hl]) (fun q z hz => ?_), ⟨_, upd_same _ _ _⟩, fun r' hr' => by rw [upd_other _ _ hr', upd_other _ _ hr']⟩
  have hq : q < 15 := by have := (List.getElem?_eq_some_iff.1 hz).1; simpa [hl] using this
  rw [List.getElem?_set] at hz
  by_cases h2 : q = j
  · subst h2; simp [hl, hq] at hz; simp [hz]
  · rw [if_neg (fun e => h2 e.symm), List.getElem?_set] at hz
    simp only [h2, if_false]
    by_cases h3 : q = i
    · subst h3; simp [hl, hq] at hz; simp [hz]
    · rw [if_neg (fun e => h3 e.symm)] at hz
      simp only [h3, if_false]
      exact lrow_of hz

end Go.Proofs.Ytgaafdfekgnccaa
