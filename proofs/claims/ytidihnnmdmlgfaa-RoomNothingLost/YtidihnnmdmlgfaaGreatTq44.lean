/-
  Lemmas: AlongM, RoomJ.
-/
import Derived.Test.YtidihnnmdmlgfaaGreatTq15
import Derived.Test.YtidihnnmdmlgfaaGreatTq32
namespace Go.Proofs.YtidihnnmdmlgfaaGreat
set_option maxHeartbeats 8000000
open Go.RowKit
set_option linter.unusedVariables false
set_option linter.unusedSimpArgs false
set_option maxRecDepth 20000
section
namespace Hp
theorem flat_post {L L' : Form} {w w' : World} {B : Nat → Nat} {R : Nat → Option Row} {S : Nat → Prop} {x0 x1 : Row} (H : Lay L w B R) (e0 : R 0 = some x0) (hr : w'.rowIs (B 0) x1.t x1.n x1.f) (T : Touch w w' (fun k => k = B 0 ∨ S k))
    (hL : L' B (fun i => if i = 0 then some x1 else none)) : Post L' w B R w' B (fun i => if i = 0 then some x1 else none) S := by
  refine ⟨rfl, ⟨hL, fun i x e => ?_, fun i i' x x' e e' _ => ?_⟩, fun i x e => ?_, T.mono (fun k _ h => h.elim (fun h => .inr ⟨0, _, e0, h⟩) .inl)⟩
  · split at e
    · next h => cases e; rw [h]; exact hr
    · cases e
  · split at e
    · split at e'
      · next h h' => rw [h, h']
      · cases e'
    · cases e
  · split at e
    · next h => rw [h]; exact .inl ⟨0, _, e0, rfl⟩
    · cases e
theorem join0 {α : Type} (f g : Nat → α) : join 0 f g 0 = f 0 := rfl
theorem join1 {α : Type} (f g : Nat → α) (i : Nat) : join 0 f g (i + 1) = g i := by
  unfold join
  rw [if_neg (by omega)]
  congr 1
theorem part_post {KP : Kd} {L L' : Form} {w w' : World} {B B2 : Nat → Nat} {R R2 : Nat → Option Row} {S : Nat → Prop} {x0 x1 : Row} {pj : Jb} {ps : KP.σ} (H : Lay L w B R) (e0 : R 0 = some x0) (hr : w'.rowIs (B 0) x1.t x1.n x1.f) (T : Touch w w' (fun k => k = B 0 ∨ S k))
    (hp : KP.Lies w' pj B2 R2 ps) (hn : ∀ i x, R2 i = some x → w.heap.size ≤ B2 i) (hL : L' (join 0 B B2) (join 0 (fun _ => some x1) R2)) : Post L' w B R w' (join 0 B B2) (join 0 (fun _ => some x1) R2) S := by
  have hl := H.lt e0
  refine ⟨rfl, ⟨hL, fun i x e => ?_, fun i i' x x' e e' he => ?_⟩, fun i x e => ?_, T.mono (fun k _ h => h.elim (fun h => .inr ⟨0, _, e0, h⟩) .inl)⟩
  · cases i with
    | zero => cases e; exact hr
    | succ i => rw [join1] at e ⊢; exact hp.row i x e
  · cases i with
    | zero =>
      cases i' with
      | zero => rfl
      | succ i' =>
        rw [join1] at e' he
        rw [join0] at he
        have := hn i' x' e'
        omega
    | succ i =>
      cases i' with
      | zero =>
        rw [join1] at e he
        rw [join0] at he
        have := hn i x e
        omega
      | succ i' =>
        rw [join1] at e e' he
        rw [join1] at he
        rw [hp.inj i i' x x' e e' he]
  · cases i with
    | zero => exact .inl ⟨0, _, e0, rfl⟩
    | succ i => rw [join1] at e ⊢; exact .inr (hn i x e)
namespace Wk
variable {KP : Kd} {W : Wk KP}
theorem nx_go {o : W.τ} {pj : Jb} {ps : KP.σ} {b : W.β} {t : Ans} {x : Stp} (he : KP.ends ps x = false) : W.next' ⟨o, .along pj ps b, t⟩ x = ⟨o, .along pj (KP.next ps x) b, t⟩ := by
  simp [next', he]
theorem nx_end {o : W.τ} {pj : Jb} {ps : KP.σ} {b : W.β} {t : Ans} {x : Stp} (he : KP.ends ps x = true) : W.next' ⟨o, .along pj ps b, t⟩ x = W.apply t (W.beh b o (KP.tell (KP.next ps x))) := by
  simp [next', he]
end Wk
end Hp
end
section
namespace Ls
open Hp
theorem nx_meet {o : O} {t : Ans} {x : Stp} : W.next' ⟨o, .on .meet, t⟩ x = ⟨{ o with g := x.had }, .on .tie, t⟩ := rfl
theorem nx_tie {o : O} {t : Ans} {x : Stp} : W.next' ⟨o, .on .tie, t⟩ x = ⟨o, .on .lay, t⟩ := rfl
theorem nx_peek {o : O} {t : Ans} {x : Stp} : W.next' ⟨o, .on .peek, t⟩ x = ⟨{ o with bl := idx x.had }, .on .take, t⟩ := rfl
theorem nx_lay_y {o : O} {t : Ans} {x : Stp} (hc : x.ok = true) : W.next' ⟨o, .on .lay, t⟩ x = ⟨o, .ended, ⟨true, 0⟩⟩ := by show W.apply t (out .lay o x) = _; unfold out; dsimp only; rw [if_pos hc]; rfl
theorem nx_lay_n {o : O} {t : Ans} {x : Stp} (hc : ¬ x.ok = true) : W.next' ⟨o, .on .lay, t⟩ x = ⟨o, .on .meet, t⟩ := by show W.apply t (out .lay o x) = _; unfold out; dsimp only; rw [if_neg hc]; rfl
theorem nx_find_y {o : O} {t : Ans} {x : Stp} (hc : there o.sh (idx x.had)) : W.next' ⟨o, .on .find, t⟩ x = ⟨{ o with g := x.had }, .on .peek, t⟩ := by show W.apply t (out .find o x) = _; unfold out; dsimp only; rw [if_pos hc]; rfl
theorem nx_find_n {o : O} {t : Ans} {x : Stp} (hc : ¬ there o.sh (idx x.had)) : W.next' ⟨o, .on .find, t⟩ x = ⟨{ o with g := x.had }, .ended, t⟩ := by show W.apply t (out .find o x) = _; unfold out; dsimp only; rw [if_neg hc]; rfl
theorem nx_take_y {o : O} {t : Ans} {x : Stp} (hc : x.ok = true) : W.next' ⟨o, .on .take, t⟩ x = ⟨o, .ended, ⟨true, idx o.g⟩⟩ := by show W.apply t (out .take o x) = _; unfold out; dsimp only; rw [if_pos hc]; rfl
theorem nx_take_n {o : O} {t : Ans} {x : Stp} (hc : ¬ x.ok = true) : W.next' ⟨o, .on .take, t⟩ x = ⟨o, .on .find, t⟩ := by show W.apply t (out .take o x) = _; unfold out; dsimp only; rw [if_neg hc]; rfl
end Ls
namespace Rom
open Hp
theorem go_part {sh : Shp} {o : RO} {pj : Jb} {ps ps' : WS Ls.W} {b : RB} {t : Ans} {x : Stp} (e : Ls.W.next' ps x = ps') (hn : Ls.W.over ps' = false) : (RW sh).next' ⟨o, .along pj ps b, t⟩ x = ⟨o, .along pj ps' b, t⟩ := by
  have he : (Ls.kList sh).ends ps x = false := by show Ls.W.over (Ls.W.next' ps x) = false; rw [e]; exact hn
  refine (Wk.nx_go (W := RW sh) he).trans ?_
  show (⟨o, .along pj (Ls.W.next' ps x) b, t⟩ : WS (RW sh)) = _
  rw [e]
theorem end_part {sh : Shp} {o : RO} {pj : Jb} {ps ps' : WS Ls.W} {b : RB} {t : Ans} {x : Stp} (e : Ls.W.next' ps x = ps') (hn : Ls.W.over ps' = true) : (RW sh).next' ⟨o, .along pj ps b, t⟩ x = (RW sh).apply t (abeh b o ps'.told) := by
  have he : (Ls.kList sh).ends ps x = true := by show Ls.W.over (Ls.W.next' ps x) = true; rw [e]; exact hn
  refine (Wk.nx_end (W := RW sh) he).trans ?_
  show (RW sh).apply t (abeh b o (Ls.W.next' ps x).told) = _
  rw [e]
theorem sim_step {sh : Shp} {s : RmS} {s' : WS (RW sh)} (H : Wf sh s) (h : Sim sh s s') (x : Stp) : rreq sh s = (RW sh).req' s' ∧ rends sh s x = (RW sh).over ((RW sh).next' s' x) ∧ Sim sh (rnext sh s x) ((RW sh).next' s' x) := by
  cases h with
  | @find hand j g xb gn sl ix sl' gn' lx lb t k =>
    refine ⟨by simp [rreq, k]; rfl, ?_⟩
    by_cases ht : there sh (idx x.had)
    · rw [go_part (Ls.nx_find_y ht) rfl]
      have e1 : rends sh ⟨hand, j, 0, g, xb, gn, sl, t⟩ x = false := by simp [rends, k, ht]
      have e2 : rnext sh ⟨hand, j, 0, g, xb, gn, sl, t⟩ x = ⟨hand, j, 1, x.had, xb, gn, sl, t⟩ := by simp [rnext, k, ht]
      rw [e1, e2]
      exact ⟨rfl, .peek k⟩
    · rw [end_part (Ls.nx_find_n ht) rfl]
      have e1 : rends sh ⟨hand, j, 0, g, xb, gn, sl, t⟩ x = true := by simp [rends, k, ht]
      have e2 : rnext sh ⟨hand, j, 0, g, xb, gn, sl, t⟩ x = ⟨hand, j, 9, x.had, xb, gn, sl, t⟩ := by simp [rnext, k, ht]
      rw [e1, e2]
      exact ⟨rfl, .mend k⟩
  | @peek hand j g xb gn sl ix sl' gn' lx lb t k =>
    refine ⟨by simp [rreq, k]; exact (by show _ = Ls.req .peek _; simp [Ls.req, behAt]), ?_⟩
    rw [go_part Ls.nx_peek rfl]
    have e1 : rends sh ⟨hand, j, 1, g, xb, gn, sl, t⟩ x = false := by simp [rends, k]
    have e2 : rnext sh ⟨hand, j, 1, g, xb, gn, sl, t⟩ x = ⟨hand, j, 2, g, idx x.had, gn, sl, t⟩ := by simp [rnext, k]
    rw [e1, e2]
    exact ⟨rfl, .take k⟩
  | @take hand j g xb gn sl ix sl' gn' lx t k =>
    refine ⟨by simp [rreq, k]; rfl, ?_⟩
    by_cases ht : x.ok = true
    · rw [end_part (Ls.nx_take_y ht) rfl]
      have e1 : rends sh ⟨hand, j, 2, g, xb, gn, sl, t⟩ x = false := by simp [rends, k]
      have e2 : rnext sh ⟨hand, j, 2, g, xb, gn, sl, t⟩ x = ⟨hand, j, 3, g, xb, gn, sl, t⟩ := by simp [rnext, k, ht]
      rw [e1, e2]
      exact ⟨rfl, .mlook k⟩
    · rw [go_part (Ls.nx_take_n ht) rfl]
      have e1 : rends sh ⟨hand, j, 2, g, xb, gn, sl, t⟩ x = false := by simp [rends, k]
      have e2 : rnext sh ⟨hand, j, 2, g, xb, gn, sl, t⟩ x = ⟨hand, j, 0, g, xb, gn, sl, t⟩ := by simp [rnext, k, ht]
      rw [e1, e2]
      exact ⟨rfl, .find k⟩
  | @mlook hand j g xb gn sl sl' gn' t k =>
    refine ⟨by simp [rreq, k]; rfl, ?_⟩
    have e1 : rends sh ⟨hand, j, 3, g, xb, gn, sl, t⟩ x = false := by simp [rends, k]
    have e2 : rnext sh ⟨hand, j, 3, g, xb, gn, sl, t⟩ x = ⟨hand, j, 4, g, xb, x.had / 4294967296, sl, t⟩ := by simp [rnext, k]
    rw [e1, e2]
    exact ⟨rfl, .muse k⟩
  | @muse hand j g xb gn sl sl' t k =>
    refine ⟨by simp [rreq, k, useW]; rfl, ?_⟩
    have e1 : rends sh ⟨hand, j, 4, g, xb, gn, sl, t⟩ x = false := by simp [rends, k]
    have e2 : rnext sh ⟨hand, j, 4, g, xb, gn, sl, t⟩ x = ⟨hand, j, 5, g, xb, gn, sl, t⟩ := by simp [rnext, k]
    rw [e1, e2]
    exact ⟨rfl, .mcount k⟩
  | @mcount hand j g xb gn sl sl' t k =>
    refine ⟨by simp [rreq, k]; rfl, ?_⟩
    have e1 : rends sh ⟨hand, j, 5, g, xb, gn, sl, t⟩ x = true := by simp [rends, k]
    have e2 : rnext sh ⟨hand, j, 5, g, xb, gn, sl, t⟩ x = ⟨hand, j, 9, g, xb, gn, sl, ⟨true, hd (idx g) gn⟩⟩ := by simp [rnext, k]
    rw [e1, e2]
    exact ⟨rfl, .mend k⟩
  | mend k => exact absurd H.st (by simp [k])
  | @wipe hand j g xb gn sl gn' c fl t k =>
    refine ⟨by simp [rreq, k]; rfl, ?_⟩
    have e1 : rends sh ⟨hand, j, 0, g, xb, gn, sl, t⟩ x = false := by simp [rends, k]
    rw [e1]
    by_cases ht : slotIn sh j.a (sl + 1)
    · have e2 : rnext sh ⟨hand, j, 0, g, xb, gn, sl, t⟩ x = ⟨hand, j, 0, g, xb, gn, sl + 1, t⟩ := by simp [rnext, k, ht]
      have e3 : (RW sh).next' ⟨⟨false, sh, hand, fl, c, j.a, sl, gn'⟩, .on .wipe, t⟩ x = ⟨⟨false, sh, hand, fl, c, j.a, sl + 1, gn'⟩, .on .wipe, t⟩ := by show (RW sh).apply t (aout .wipe _ x) = _; simp only [aout, ht, if_true]; rfl
      rw [e2, e3]
      exact ⟨rfl, .wipe k⟩
    · have e2 : rnext sh ⟨hand, j, 0, g, xb, gn, sl, t⟩ x = ⟨hand, j, 1, g, xb, gn, sl + 1, t⟩ := by simp [rnext, k, ht]
      have e3 : (RW sh).next' ⟨⟨false, sh, hand, fl, c, j.a, sl, gn'⟩, .on .wipe, t⟩ x = ⟨⟨false, sh, hand, fl, c, j.a, sl + 1, gn'⟩, .on .glook, t⟩ := by show (RW sh).apply t (aout .wipe _ x) = _; simp only [aout, ht, if_false]; rfl
      rw [e2, e3]
      exact ⟨rfl, .glook k⟩
  | @glook hand j g xb gn sl sl' gn' c fl t k =>
    refine ⟨by simp [rreq, k]; rfl, ?_⟩
    have e1 : rends sh ⟨hand, j, 1, g, xb, gn, sl, t⟩ x = false := by simp [rends, k]
    have e2 : rnext sh ⟨hand, j, 1, g, xb, gn, sl, t⟩ x = ⟨hand, j, 2, g, xb, x.had / 4294967296, sl, t⟩ := by simp [rnext, k]
    rw [e1, e2]
    exact ⟨rfl, .leave k⟩
  | @leave hand j g xb gn sl sl' c fl t k =>
    refine ⟨by simp [rreq, k]; rfl, ?_⟩
    have e1 : rends sh ⟨hand, j, 2, g, xb, gn, sl, t⟩ x = false := by simp [rends, k]
    rw [e1]
    by_cases hq : gn = 4294967295
    · have e2 : rnext sh ⟨hand, j, 2, g, xb, gn, sl, t⟩ x = ⟨hand, j, 6, g, xb, gn, sl, t⟩ := by simp [rnext, k, hq]
      have e3 : (RW sh).next' ⟨⟨false, sh, hand, fl, c, j.a, sl', gn⟩, .on .leave, t⟩ x = ⟨⟨false, sh, hand, fl, c, j.a, sl', gn⟩, .on .gcount, t⟩ := by show (RW sh).apply t (aout .leave _ x) = _; simp only [aout, hq, if_true]; rfl
      rw [e2, e3]
      exact ⟨rfl, .gcount k⟩
    · have e2 : rnext sh ⟨hand, j, 2, g, xb, gn, sl, t⟩ x = ⟨hand, j, 3, g, xb, gn, sl, t⟩ := by simp [rnext, k, hq]
      have e3 : (RW sh).next' ⟨⟨false, sh, hand, fl, c, j.a, sl', gn⟩, .on .leave, t⟩ x = ⟨⟨false, sh, hand, fl, c, j.a, sl', gn⟩, .along (lj j.a) (⟨⟨true, sh, hand, 1, 0, j.a, 0⟩, .on .meet, ⟨false, 0⟩⟩ : WS Ls.W) .laid, t⟩ := by
        show (RW sh).apply t (aout .leave _ x) = _
        simp only [aout, hq, if_false]
        have e : Ls.init sh hand (lj j.a) = ⟨⟨true, sh, hand, 1, 0, j.a, 0⟩, .on .meet, ⟨false, 0⟩⟩ := by unfold Ls.init lj; rw [if_pos rfl]
        rw [e]
        rfl
      rw [e2, e3]
      exact ⟨rfl, .meet k ⟨by omega, by omega⟩⟩
  | @meet hand j g xb gn sl sl' gn' c lg lb fl t k hlg =>
    refine ⟨by simp [rreq, k]; rfl, ?_⟩
    rw [go_part Ls.nx_meet rfl]
    have e1 : rends sh ⟨hand, j, 3, g, xb, gn, sl, t⟩ x = false := by simp [rends, k]
    have e2 : rnext sh ⟨hand, j, 3, g, xb, gn, sl, t⟩ x = ⟨hand, j, 4, x.had, xb, gn, sl, t⟩ := by simp [rnext, k]
    rw [e1, e2]
    exact ⟨rfl, .tie k⟩
  | @tie hand j g xb gn sl sl' gn' c lb fl t k =>
    refine ⟨by simp [rreq, k]; exact (by show _ = Ls.req .tie _; simp [Ls.req, behAt]), ?_⟩
    rw [go_part Ls.nx_tie rfl]
    have e1 : rends sh ⟨hand, j, 4, g, xb, gn, sl, t⟩ x = false := by simp [rends, k]
    have e2 : rnext sh ⟨hand, j, 4, g, xb, gn, sl, t⟩ x = ⟨hand, j, 5, g, xb, gn, sl, t⟩ := by simp [rnext, k]
    rw [e1, e2]
    exact ⟨rfl, .lay k⟩
  | @lay hand j g xb gn sl sl' gn' c lb fl t k =>
    refine ⟨by simp [rreq, k]; rfl, ?_⟩
    have e1 : rends sh ⟨hand, j, 5, g, xb, gn, sl, t⟩ x = false := by simp [rends, k]
    rw [e1]
    by_cases ht : x.ok = true
    · rw [end_part (Ls.nx_lay_y ht) rfl]
      have e2 : rnext sh ⟨hand, j, 5, g, xb, gn, sl, t⟩ x = ⟨hand, j, 6, g, xb, gn, sl, t⟩ := by simp [rnext, k, ht]
      rw [e2]
      exact ⟨rfl, .gcount k⟩
    · rw [go_part (Ls.nx_lay_n ht) rfl]
      have e2 : rnext sh ⟨hand, j, 5, g, xb, gn, sl, t⟩ x = ⟨hand, j, 3, g, xb, gn, sl, t⟩ := by simp [rnext, k, ht]
      rw [e2]
      exact ⟨rfl, .meet k H.g⟩
  | @gcount hand j g xb gn sl sl' gn' c fl t k =>
    refine ⟨by simp [rreq, k]; rfl, ?_⟩
    have e1 : rends sh ⟨hand, j, 6, g, xb, gn, sl, t⟩ x = true := by simp [rends, k]
    have e2 : rnext sh ⟨hand, j, 6, g, xb, gn, sl, t⟩ x = ⟨hand, j, 9, g, xb, gn, sl, ⟨true, mx0 j.a⟩⟩ := by simp [rnext, k]
    rw [e1, e2]
    exact ⟨rfl, .gend k⟩
  | gend k => exact absurd H.st (by simp [k])
theorem sim_told {sh : Shp} {s : RmS} {s' : WS (RW sh)} (h : Sim sh s s') : s.told = s'.told := by cases h <;> rfl
end Rom
end
end Go.Proofs.YtidihnnmdmlgfaaGreat
