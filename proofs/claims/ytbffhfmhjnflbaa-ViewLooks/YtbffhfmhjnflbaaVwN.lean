/-
  View, pure: a list as it is seen; the view of a memory; what is sound.
-/
import Derived.Test.YtbffhfmhjnflbaaShapeN0
namespace Go.Proofs.Ytbffhfmhjnflbaa
set_option linter.unusedVariables false
set_option linter.unusedSimpArgs false
namespace Vw
open Shape

/-- Along the numbers: so long as the number is one of 1 to o and not seen yet. -/
def al (o : Nat) (nx : Int → Int) : Nat → List Int → Int → List Int × Int
  | 0, seen, cur => (seen, cur)
  | k + 1, seen, cur => if 1 ≤ cur ∧ cur ≤ (o : Int) ∧ ¬ cur ∈ seen then al o nx k (seen ++ [cur]) (nx cur) else (seen, cur)

structure Sn (o : Nat) (seen : List Int) : Prop where
  nodup : seen.Nodup
  range : ∀ c ∈ seen, 1 ≤ c ∧ c ≤ (o : Int)

theorem Sn.nil (o : Nat) : Sn o [] := ⟨List.nodup_nil, by simp⟩
theorem Sn.len : ∀ {o : Nat} {seen : List Int}, Sn o seen → seen.length ≤ o
  | 0, [], h => Nat.le_refl _
  | 0, c :: l, h => by have := h.range c (by simp); omega
  | o + 1, seen, h => by
    by_cases hm : ((o + 1 : Nat) : Int) ∈ seen
    · have h1 : Sn o (seen.erase ((o + 1 : Nat) : Int)) := by
        refine ⟨h.nodup.erase _, fun c hc => ?_⟩
        have h2 := (List.Nodup.mem_erase_iff h.nodup).1 hc
        have h3 := h.range c h2.2
        have h4 := h2.1
        omega
      have h5 := h1.len
      rw [List.length_erase_of_mem hm] at h5
      omega
    · have h1 : Sn o seen := by
        refine ⟨h.nodup, fun c hc => ?_⟩
        have h3 := h.range c hc
        have h4 : ¬ c = ((o + 1 : Nat) : Int) := fun e => hm (e ▸ hc)
        omega
      have h5 := h1.len
      omega
theorem Sn.more {o : Nat} {seen : List Int} {c : Int} (h : Sn o seen) (h1 : 1 ≤ c) (h2 : c ≤ (o : Int)) (h3 : ¬ c ∈ seen) : Sn o (seen ++ [c]) := by
  refine ⟨?_, ?_⟩
  · rw [List.nodup_append]
    refine ⟨h.nodup, by simp, ?_⟩
    intro a ha b hb e
    simp at hb
    subst hb
    subst e
    exact h3 ha
  · intro a ha
    rcases List.mem_append.1 ha with ha | ha
    · exact h.range a ha
    · simp at ha; subst ha; exact ⟨h1, h2⟩
theorem al_stop (o : Nat) (nx : Int → Int) (k : Nat) {seen : List Int} {cur : Int} (h : ¬ (1 ≤ cur ∧ cur ≤ (o : Int) ∧ ¬ cur ∈ seen)) : al o nx k seen cur = (seen, cur) := by
  cases k with
  | zero => rfl
  | succ k => simp only [al]; rw [if_neg h]
theorem al_go {o : Nat} {nx : Int → Int} {seen : List Int} {cur : Int} (S : Sn o seen) (h : 1 ≤ cur ∧ cur ≤ (o : Int) ∧ ¬ cur ∈ seen) : al o nx (o - seen.length) seen cur = al o nx (o - (seen ++ [cur]).length) (seen ++ [cur]) (nx cur) := by
  have h1 := (S.more h.1 h.2.1 h.2.2).len
  simp at h1
  rw [show o - seen.length = (o - (seen ++ [cur]).length) + 1 from by simp; omega]
  simp only [al]
  rw [if_pos h]
theorem al_sn (o : Nat) (nx : Int → Int) : ∀ (k : Nat) (seen : List Int) (cur : Int), Sn o seen → Sn o (al o nx k seen cur).1
  | 0, seen, cur, h => h
  | k + 1, seen, cur, h => by
    simp only [al]
    split
    · rename_i h1
      exact al_sn o nx k _ _ (h.more h1.1 h1.2.1 h1.2.2)
    · exact h

structure Ob where
  us : Bool
  li : Bool
  fi : Bool
  ta : Bool
  ag : Int
  ge : Int
  lk : Int
  nx : Int
  ns : Nat
  sl : Nat → Int

/-- What a view tells. -/
structure Cv where
  ph : Int
  co : Int
  ro : Int
  na : Nat
  ac : Nat → Int
  nr : Nat
  rn : Nat → Nat
  rt : Nat → Nat → Int
  nw : Nat
  wk : Nat → Int
  no : Nat
  ob : Nat → Ob
  fr : List Int
  gr : List Int
  qu : List Int
  cn : Nat → Int

/-- The place of object j + 1. -/
def pO (x : Sh) (j : Nat) : Nat := bO x + j * ow x
def bitB (y v : Int) : Bool := y / v % 2 == 1
def obAt (x : Sh) (f : Nat → Int) (j : Nat) : Ob :=
  ⟨bitB (f (pO x j)) 1, f (pO x j) / 2 % 2 == f 0 / 8 % 2, bitB (f (pO x j)) 4, bitB (f (pO x j)) 8, f (pO x j) / 256 % 256, f (pO x j) / 4294967296, f (pO x j + 1), f (pO x j + 2), x.s, fun q => f (pO x j + (3 + q))⟩
/-- The number to which an object's word leads. -/
def nxt (x : Sh) (f : Nat → Int) (over : Nat) (c : Int) : Int := f (pO x (c.toNat - 1) + over) % 4294967296
def lst (x : Sh) (f : Nat → Int) (at' over : Nat) : List Int × Int := al x.o (nxt x f over) x.o [] (f at' % 4294967296)
def cv (x : Sh) (f : Nat → Int) : Cv :=
  ⟨f 0 % 8, f 0 / 8 % 2, f 0 / 256, x.h, fun i => f (8 + i), x.h, fun _ => x.r, fun j q => f (bR x + j * x.r + q), x.k, fun b => f (bK x + b), x.o, obAt x f, (lst x f 1 1).1, (lst x f 2 1).1, (lst x f 3 2).1, fun i => f (4 + i)⟩
end Vw
end Go.Proofs.Ytbffhfmhjnflbaa
