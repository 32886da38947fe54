/-
  'return t, s, ended': a task and a step handed back by value, in whatever order.
-/
import Derived.Test.YtdbiphibdaghkaaRLaid
namespace Go.Proofs.Ytdbiphibdaghkaa
open Go.RowKit
set_option linter.unusedVariables false
set_option linter.unusedSimpArgs false
set_option linter.unnecessarySimpa false

namespace Ret
/-- What has been done so far of the five. -/
structure In (w0 : World) (A B C D xA xB xC xD sA sB e m : Nat) (lt ls : List Value) (v : Value) (L : Nat → Bool) (a : Act) (w : World) : Prop where
  sz : a.tmps.size = m
  df : a.defers = []
  pA : a.eval (.tmp xA) = .pointer (some ⟨A, 0, none⟩)
  pB : a.eval (.tmp xB) = .pointer (some ⟨B, 0, none⟩)
  pC : a.eval (.tmp xC) = .pointer (some ⟨C, 0, none⟩)
  pD : a.eval (.tmp xD) = .pointer (some ⟨D, 0, none⟩)
  tch : Touch w0 w (fun k => k = C ∨ k = D)
  rA : w.rangeAt A 0 lt
  rB : w.rangeAt B 0 ls
  tC : w.there C 0 lt.length
  tD : w.there D 0 ls.length
  l0 : L 0 = true → a.eval (.tmp sA) = .agg lt.toArray
  l1 : L 1 = true → a.eval (.tmp sB) = .agg ls.toArray
  l2 : L 2 = true → w.rangeAt C 0 lt
  l3 : L 3 = true → w.rangeAt D 0 ls
  l4 : L 4 = true → a.eval (.tmp e) = v
end Ret

theorem wp_assign {P : Program} {o : Oper} {a : Act} {w : World} {K : Act → World → Prop} {Q : Exit → Act → World → Prop} (x : Operand) (ho : o.op = .assign x) (h : K (a.put o.dst (a.eval x)) w) : o.wp P a w K Q :=
  wp_value (w' := w) (v := a.eval x) (by simp [execOp, ho]) h

theorem ret3 {P : Program} {id : Nat} {o0 o1 o2 o3 o4 : Oper} {Q : Exit → Act → World → Prop} {a : Act} {w : World} {sA sB e xA xB xC xD A B C D : Nat} {tT tS : TypeId} {dT dS : TypeDesc} {x : Operand} {lt ls : List Value} {v : Value}
    (hm : P.follows .mixedOrders = true)
    (e0 : o0.op = .load tT (.tmp xA)) (e1 : o1.op = .load tS (.tmp xB)) (e2 : o2.op = .store tT (.tmp xC) (.tmp sA)) (e3 : o3.op = .store tS (.tmp xD) (.tmp sB)) (e4 : o4.op = .assign x)
    (d0 : o0.dst = some sA) (d1 : o1.dst = some sB) (d2 : o2.dst = none) (d3 : o3.dst = none) (d4 : o4.dst = some e)
    (hg : ∀ (i : Nat) (o : Oper), #[o0, o1, o2, o3, o4][i]? = some o → o.guard = none) (hback : ∀ (i : Nat) (o : Oper), #[o0, o1, o2, o3, o4][i]? = some o → ∀ e ∈ o.after, Region.binds .any e = true → e.on < i)
    (a2 : ∃ e ∈ o2.after, e.on = 0 ∧ Region.binds .any e = true) (a3 : ∃ e ∈ o3.after, e.on = 1 ∧ Region.binds .any e = true)
    (hT1 : P.underlying tT = some dT) (hT2 : dT.isRow = true) (hT3 : (P.info? tT).map (·.size) = some lt.length) (hS1 : P.underlying tS = some dS) (hS2 : dS.isRow = true) (hS3 : (P.info? tS).map (·.size) = some ls.length)
    (hl : ∀ u ∈ lt, u.oneCell' = true) (hs : ∀ u ∈ ls, u.oneCell' = true)
    (hx : ∀ a' : Act, (∀ k, k ≠ sA → k ≠ sB → k ≠ e → a'.eval (.tmp k) = a.eval (.tmp k)) → a'.eval x = v)
    (hap : sA ≠ sB ∧ sA ≠ e ∧ sB ≠ e ∧ (xA ≠ sA ∧ xA ≠ sB ∧ xA ≠ e) ∧ (xB ≠ sA ∧ xB ≠ sB ∧ xB ≠ e) ∧ (xC ≠ sA ∧ xC ≠ sB ∧ xC ≠ e) ∧ (xD ≠ sA ∧ xD ≠ sB ∧ xD ≠ e)) (hsz : sA < a.tmps.size ∧ sB < a.tmps.size ∧ e < a.tmps.size) (hdf : a.defers = [])
    (hbl : A ≠ C ∧ A ≠ D ∧ B ≠ C ∧ B ≠ D ∧ C ≠ D)
    (pA : a.eval (.tmp xA) = .pointer (some ⟨A, 0, none⟩)) (pB : a.eval (.tmp xB) = .pointer (some ⟨B, 0, none⟩)) (pC : a.eval (.tmp xC) = .pointer (some ⟨C, 0, none⟩)) (pD : a.eval (.tmp xD) = .pointer (some ⟨D, 0, none⟩))
    (rA : w.rangeAt A 0 lt) (rB : w.rangeAt B 0 ls) (tC : w.there C 0 lt.length) (tD : w.there D 0 ls.length)
    (h : ∀ a' w', a'.defers = [] → a'.eval (.tmp xC) = .pointer (some ⟨C, 0, none⟩) → a'.eval (.tmp xD) = .pointer (some ⟨D, 0, none⟩) → a'.eval (.tmp e) = v → w'.rangeAt C 0 lt → w'.rangeAt D 0 ls → Touch w w' (fun k => k = C ∨ k = D) → Q .normal a' w') :
    (Code.region id #[o0, o1, o2, o3, o4] true).wp P Q a w := by
  obtain ⟨hAB, hAe, hBe, ⟨hA1, hA2, hA3⟩, ⟨hB1, hB2, hB3⟩, ⟨hC1, hC2, hC3⟩, hD1, hD2, hD3⟩ := hap
  obtain ⟨n1, n2, n3, n4, n5⟩ := hbl
  refine region_inv hm hg hback (fun L a' w' => Ret.In w A B C D xA xB xC xD sA sB e a.tmps.size lt ls v L a' w' ∧ ∀ k, k ≠ sA → k ≠ sB → k ≠ e → a'.eval (.tmp k) = a.eval (.tmp k)) ?step ?fin ?start
  case start =>
    exact ⟨⟨rfl, hdf, pA, pB, pC, pD, ⟨rfl, rfl, rfl, Nat.le_refl _, fun _ _ _ => rfl⟩, rA, rB, tC, tD, fun h => (by cases h), fun h => (by cases h), fun h => (by cases h), fun h => (by cases h), fun h => (by cases h)⟩, fun _ _ _ _ => rfl⟩
  case fin =>
    intro L a' w' ⟨hi, _⟩ hall
    exact h a' w' hi.df hi.pC hi.pD (hi.l4 (hall 4 (by simp))) (hi.l2 (hall 2 (by simp))) (hi.l3 (hall 3 (by simp))) hi.tch
  case step =>
    intro L a' w' i o ⟨hi, hq⟩ ho hL hd
    have hi5 : i < 5 := by have := (Array.getElem?_eq_some_iff.1 ho).1; simpa using this
    have put : ∀ (d : Nat) (u : Value) (k : Nat), k ≠ d → (a'.put (some d) u).eval (.tmp k) = a'.eval (.tmp k) := fun d u k hk => put_other hk
    match i, hi5 with
    | 0, _ =>
      have ho' : o0 = o := by simpa using ho
      subst ho'
      refine wp_load_mid tT (.tmp xA) e0 A 0 hi.pA lt dT hi.rA hT1 hT2 hT3 ?_
      rw [d0]
      refine ⟨⟨by rw [put_size]; exact hi.sz, by rw [put_defs]; exact hi.df, by rw [put _ _ _ hA1]; exact hi.pA, by rw [put _ _ _ hB1]; exact hi.pB, by rw [put _ _ _ hC1]; exact hi.pC, by rw [put _ _ _ hD1]; exact hi.pD, hi.tch, hi.rA, hi.rB, hi.tC, hi.tD, fun _ => put_eval (by rw [hi.sz]; exact hsz.1), fun h1 => ?_, fun h1 => hi.l2 (by simpa [upd] using h1), fun h1 => hi.l3 (by simpa [upd] using h1), fun h1 => ?_⟩, fun k h1 h2 h3 => by rw [put _ _ _ h1]; exact hq k h1 h2 h3⟩
      · rw [put _ _ _ (Ne.symm hAB)]; exact hi.l1 (by simpa [upd] using h1)
      · rw [put _ _ _ (Ne.symm hAe)]; exact hi.l4 (by simpa [upd] using h1)
    | 1, _ =>
      have ho' : o1 = o := by simpa using ho
      subst ho'
      refine wp_load_mid tS (.tmp xB) e1 B 0 hi.pB ls dS hi.rB hS1 hS2 hS3 ?_
      rw [d1]
      refine ⟨⟨by rw [put_size]; exact hi.sz, by rw [put_defs]; exact hi.df, by rw [put _ _ _ hA2]; exact hi.pA, by rw [put _ _ _ hB2]; exact hi.pB, by rw [put _ _ _ hC2]; exact hi.pC, by rw [put _ _ _ hD2]; exact hi.pD, hi.tch, hi.rA, hi.rB, hi.tC, hi.tD, fun h1 => ?_, fun _ => put_eval (by rw [hi.sz]; exact hsz.2.1), fun h1 => hi.l2 (by simpa [upd] using h1), fun h1 => hi.l3 (by simpa [upd] using h1), fun h1 => ?_⟩, fun k h1 h2 h3 => by rw [put _ _ _ h2]; exact hq k h1 h2 h3⟩
      · rw [put _ _ _ hAB]; exact hi.l0 (by simpa [upd] using h1)
      · rw [put _ _ _ (Ne.symm hBe)]; exact hi.l4 (by simpa [upd] using h1)
    | 2, _ =>
      have ho' : o2 = o := by simpa using ho
      subst ho'
      obtain ⟨ed, hed, hon, hbd⟩ := a2
      have L0 : L 0 = true := by have := hd ed hed hbd; rwa [hon] at this
      refine wp_store_mid tT (.tmp xC) (.tmp sA) e2 C 0 lt.toArray hi.pC (hi.l0 L0) (by simpa using hi.tC) (by simpa using hT3) (all_oneCell_toArray hl) ?_
      rw [d2]
      have tt := touch_setCells C lt 0 w'
      have sm := World.rangeAt_setCells_same w' C 0 lt hi.tC
      refine ⟨⟨hi.sz, hi.df, hi.pA, hi.pB, hi.pC, hi.pD, hi.tch.trans' tt (fun k _ h => .inl h), World.rangeAt_setCells_apart hi.rA _ _ _ (.inl n1), World.rangeAt_setCells_apart hi.rB _ _ _ (.inl n3), World.there_setCells hi.tC _ _ _, World.there_setCells hi.tD _ _ _, fun h1 => hi.l0 L0, fun h1 => hi.l1 (by simpa [upd] using h1), fun _ => sm, fun h1 => World.rangeAt_setCells_apart (hi.l3 (by simpa [upd] using h1)) _ _ _ (.inl (Ne.symm n5)), fun h1 => hi.l4 (by simpa [upd] using h1)⟩, hq⟩
    | 3, _ =>
      have ho' : o3 = o := by simpa using ho
      subst ho'
      obtain ⟨ed, hed, hon, hbd⟩ := a3
      have L1 : L 1 = true := by have := hd ed hed hbd; rwa [hon] at this
      refine wp_store_mid tS (.tmp xD) (.tmp sB) e3 D 0 ls.toArray hi.pD (hi.l1 L1) (by simpa using hi.tD) (by simpa using hS3) (all_oneCell_toArray hs) ?_
      rw [d3]
      have tt := touch_setCells D ls 0 w'
      have sm := World.rangeAt_setCells_same w' D 0 ls hi.tD
      refine ⟨⟨hi.sz, hi.df, hi.pA, hi.pB, hi.pC, hi.pD, hi.tch.trans' tt (fun k _ h => .inr h), World.rangeAt_setCells_apart hi.rA _ _ _ (.inl n2), World.rangeAt_setCells_apart hi.rB _ _ _ (.inl n4), World.there_setCells hi.tC _ _ _, World.there_setCells hi.tD _ _ _, fun h1 => hi.l0 (by simpa [upd] using h1), fun h1 => hi.l1 L1, fun h1 => World.rangeAt_setCells_apart (hi.l2 (by simpa [upd] using h1)) _ _ _ (.inl n5), fun _ => sm, fun h1 => hi.l4 (by simpa [upd] using h1)⟩, hq⟩
    | 4, _ =>
      have ho' : o4 = o := by simpa using ho
      subst ho'
      refine wp_assign x e4 ?_
      rw [d4, hx a' hq]
      refine ⟨⟨by rw [put_size]; exact hi.sz, by rw [put_defs]; exact hi.df, by rw [put _ _ _ hA3]; exact hi.pA, by rw [put _ _ _ hB3]; exact hi.pB, by rw [put _ _ _ hC3]; exact hi.pC, by rw [put _ _ _ hD3]; exact hi.pD, hi.tch, hi.rA, hi.rB, hi.tC, hi.tD, fun h1 => ?_, fun h1 => ?_, fun h1 => hi.l2 (by simpa [upd] using h1), fun h1 => hi.l3 (by simpa [upd] using h1), fun _ => put_eval (by rw [hi.sz]; exact hsz.2.2)⟩, fun k h1 h2 h3 => by rw [put _ _ _ h3]; exact hq k h1 h2 h3⟩
      · rw [put _ _ _ hAe]; exact hi.l0 (by simpa [upd] using h1)
      · rw [put _ _ _ hBe]; exact hi.l1 (by simpa [upd] using h1)
end Go.Proofs.Ytdbiphibdaghkaa
