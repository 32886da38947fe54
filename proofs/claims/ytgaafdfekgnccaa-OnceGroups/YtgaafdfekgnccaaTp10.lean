/-
  Lemmas: RLaid.
-/
import Derived.Test.YtgaafdfekgnccaaTp09
import Derived.Deep.Light
/-
  The reference's run: a task laid under way, a step done, what is told.
-/
namespace Go.Proofs.Ytgaafdfekgnccaa
open Go.RowKit
set_option linter.unusedVariables false
set_option linter.unusedSimpArgs false
set_option linter.unnecessarySimpa false
set_option maxRecDepth 20000
open Beg

theorem rangeAt_block {w w' : World} {b o : Nat} {cs : List Value} (h : w.rangeAt b o cs) (e : w'.heap[b]? = w.heap[b]?) : w'.rangeAt b o cs := fun j v hv => by
  rw [World.cell?_of_block (a := ⟨b, o + j, none⟩) e]; exact h j v hv
theorem there_block {w w' : World} {b o n : Nat} (h : w.there b o n) (e : w'.heap[b]? = w.heap[b]?) : w'.there b o n := fun j hj => by
  rw [World.cell?_of_block (a := ⟨b, o + j, none⟩) e, World.frozen?_of_block (a := ⟨b, o + j, none⟩) e]; exact h j hj
theorem rowIs.there {w : World} {b n o m : Nat} {t : TypeId} {f : Nat → Value} (h : w.rowIs b t n f) (hm : o + m ≤ n) : w.there b o m := fun j hj =>
  ⟨by rw [h.cell (i := o + j) (by omega)]; rfl, h.frozen _⟩
theorem rowIs.setCells {b n : Nat} {t : TypeId} : ∀ (vs : List Value) (o : Nat) (w : World) (f : Nat → Value), w.rowIs b t n f → (w.setCells b o vs).rowIs b t n (fun i => if o ≤ i ∧ i < o + vs.length then vs[i - o]?.getD default else f i)
  | [], o, w, f, h => h.congr (fun i hi => by simp; intros; omega)
  | v :: r, o, w, f, h => by
    rw [World.setCells]
    refine (rowIs.setCells r (o + 1) _ _ (h.set o v)).congr (fun i hi => ?_)
    by_cases h1 : i = o
    · subst h1; simp; intro h3; omega
    · by_cases h2 : o + 1 ≤ i ∧ i < o + 1 + r.length
      · rw [if_pos h2, if_pos (by simp; omega)]
        have : i - o = (i - (o + 1)) + 1 := by omega
        rw [this]; simp
      · rw [if_neg h2]; simp only [h1, if_false]; rw [if_neg (by simp only [List.length_cons]; omega)]

section
variable {Q : Program} {fn : Func} {tmps : Array Value} {W : World} {v u : Value} {a a' : Addr} {t t' t'' : Nat} {ty ty' : TypeId}
theorem results_c (hf : fn.results = #[.cell t ty]) (ht : tmps.getD t undef = .pointer (some a)) (hl : (loadVar ty a).run Q W = .ok v W) : (results fn tmps).run Q W = .ok v W := by
  have ha : (asAddr (.pointer (some a))).run Q W = .ok a W := rfl
  unfold results
  rw [hf]
  simp only [Array.mapM_eq_mapM_toList, List.mapM_cons, List.mapM_nil, ht, Sem.run_bind, ha, hl, Result.andThen_ok, Sem.run_pure, bind_assoc, pure_bind, map_eq_pure_bind]
  rfl
theorem results_ct (hf : fn.results = #[.cell t ty, .tmp t']) (ht : tmps.getD t undef = .pointer (some a)) (hl : (loadVar ty a).run Q W = .ok v W) : (results fn tmps).run Q W = .ok (.tuple #[v, tmps.getD t' undef]) W := by
  have ha : (asAddr (.pointer (some a))).run Q W = .ok a W := rfl
  unfold results
  rw [hf]
  simp only [Array.mapM_eq_mapM_toList, List.mapM_cons, List.mapM_nil, ht, Sem.run_bind, ha, hl, Result.andThen_ok, Sem.run_pure, bind_assoc, pure_bind, map_eq_pure_bind]
  rfl
theorem results_cct (hf : fn.results = #[.cell t ty, .cell t' ty', .tmp t'']) (ht : tmps.getD t undef = .pointer (some a)) (hl : (loadVar ty a).run Q W = .ok v W) (ht' : tmps.getD t' undef = .pointer (some a')) (hl' : (loadVar ty' a').run Q W = .ok u W) : (results fn tmps).run Q W = .ok (.tuple #[v, u, tmps.getD t'' undef]) W := by
  have ha : (asAddr (.pointer (some a))).run Q W = .ok a W := rfl
  have ha' : (asAddr (.pointer (some a'))).run Q W = .ok a' W := rfl
  unfold results
  rw [hf]
  simp only [Array.mapM_eq_mapM_toList, List.mapM_cons, List.mapM_nil, ht, ht', Sem.run_bind, ha, hl, ha', hl', Result.andThen_ok, Sem.run_pure, bind_assoc, pure_bind, map_eq_pure_bind]
  rfl
end
theorem rangeAt_setOther {w : World} {b o : Nat} {cs : List Value} (h : w.rangeAt b o cs) {a : Addr} (ha : b ≠ a.block) (v : Value) : (w.setCell a v).rangeAt b o cs := rangeAt_block h (Below.heap_setCell _ _ _ _ ha)
theorem there_setOther {w : World} {b o n : Nat} (h : w.there b o n) {a : Addr} (ha : b ≠ a.block) (v : Value) : (w.setCell a v).there b o n := there_block h (Below.heap_setCell _ _ _ _ ha)

variable {K : Kd} {rep : List Value → K.σ → Prop} {P : Par} {blk : Rl → Nat} {c : Rl → Option Row} {st : St K} {un : Nat → Bool} {capw : Nat} {sv : Value} {w : World} {base B : Nat} {aoh aos : Option Addr} {caph caps : Nat} {sh : Shp} {la : Int}

end Go.Proofs.Ytgaafdfekgnccaa
