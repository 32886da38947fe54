/-
  Lemmas: RoomRK, L17Wrong, L17RanE.
-/
import Derived.Test.YtmikhglnomgbfaaGreatTp39
import Derived.Test.YtmikhglnomgbfaaGreatTp40
import Derived.Test.YtmikhglnomgbfaaGreatTp41
import Derived.Test.YtmikhglnomgbfaaGreatTp43
import Derived.Test.YtmikhglnomgbfaaGreatTp44
import Derived.Test.YtmikhglnomgbfaaGreatTp46
import Derived.Test.YtmikhglnomgbfaaGreatTp47
import Derived.Test.YtmikhglnomgbfaaGreatTp48
import Derived.Test.YtmikhglnomgbfaaGreatTp20
import Derived.Test.YtmikhglnomgbfaaGreatTp19
namespace Go.Proofs.YtmikhglnomgbfaaGreat
set_option maxHeartbeats 8000000
open Go.RowKit
set_option linter.unusedVariables false
set_option linter.unusedSimpArgs false
set_option linter.unnecessarySimpa false
set_option maxRecDepth 20000
section
namespace Rom
open Hp
def bfin (j : Jb) : Int := if fin j = true then 1 else 0
def u64 (x : Int) : Prop := 0 ≤ x ∧ x ≤ 18446744073709551615
def rTk (sh : Shp) (s : RmS) (cs : List Value) : Prop :=
 if s.j.kind = 1 then ∃ r0 r1 r2 r3, cs = tk sh s.hand ⟨1, 0, bfin s.j, col s.j, 0⟩ (s.st + 1) ⟨r0, r1, r2, r3, 0, 0, 0, 0⟩ ⟨false, 0⟩ ∧ u64 r0 ∧ (0 ≤ r1 ∧ r1 < 4294967296) ∧ u64 r2 ∧ (0 ≤ r3 ∧ r3 ≤ 4294967295) ∧ (¬ s.st = 0 → r0 = s.g ∧ r1 = idx s.g) ∧ (s.st = 2 → idx r2 = s.xb) ∧ (s.st = 4 ∨ s.st = 5 → r3 = s.gn)
 else ∃ r0 r1 r2, cs = tk sh s.hand ⟨2, s.j.a, 0, 0, 0⟩ (s.st + 1) ⟨r0, r1, r2, 0, 0, 0, 0, 0⟩ ⟨false, 0⟩ ∧ u64 r2 ∧ (s.st = 0 → r0 = s.sl) ∧ (s.st = 2 → r1 = s.gn) ∧ (s.st = 4 ∨ s.st = 5 → r2 = s.g)
def repR (sh : Shp) : List Value → RmS → Prop := fun cs s => Wf sh s ∧ s.told = ⟨false, 0⟩ ∧ rTk sh s cs
theorem z64 : u64 0 := by unfold u64; omega
theorem rep_make {sh : Shp} (k : Int) {j : Jb} (hw : j.wf) (hk : j.kind = 1) : repR sh (tk sh k ⟨1, 0, bfin j, col j, 0⟩ 1 .zero ⟨false, 0⟩) (rinit sh k j) := by
 refine ⟨wf_init sh k hw (fun h => absurd hk h), rfl, ?_⟩
 unfold rTk
 have h' : (rinit sh k j).j.kind = 1 := hk
 have h0 : (rinit sh k j).st = 0 := by simp [rinit, hk]
 rw [if_pos h', h0]
 exact ⟨0, 0, 0, 0, rfl, z64, by omega, z64, by omega, fun h => absurd rfl h, fun h => absurd h (by decide), fun h => absurd h (by decide)⟩
theorem rep_give {sh : Shp} (k : Int) {j : Jb} (hw : j.wf) (hk : ¬ j.kind = 1) (ha : j.a ≤ 9223372036854775807) : repR sh (tk sh k ⟨2, j.a, 0, 0, 0⟩ (if slotIn sh j.a 0 then 1 else 2) .zero ⟨false, 0⟩) (rinit sh k j) := by
 refine ⟨wf_init sh k hw (fun _ => ha), rfl, ?_⟩
 unfold rTk
 have h' : ¬ (rinit sh k j).j.kind = 1 := hk
 rw [if_neg h']
 by_cases hs : slotIn sh j.a 0
 ·have h0 : (rinit sh k j).st = 0 := by simp [rinit, hk, hs]
  rw [h0, if_pos hs]
  exact ⟨0, 0, 0, rfl, z64, fun _ => rfl, fun h => absurd h (by decide), fun h => absurd h (by decide)⟩
 ·have h0 : (rinit sh k j).st = 1 := by simp [rinit, hk, hs]
  rw [h0, if_neg hs]
  exact ⟨0, 0, 0, rfl, z64, fun h => absurd h (by decide), fun h => absurd h (by decide), fun h => absurd h (by decide)⟩
theorem rstart_any {sh : Shp} (h5 : Shape.R5 sh.a sh.b sh.c sh.d sh.e) (k : Int) (j : Jb) (hw : j.wf) : ∃ cs, IsTk cs ∧ (rerr false sh k j = 0 → repR sh cs (rinit sh k j)) ∧ ∀ w : World, Calls Tryz.prog 39 #[sh.val, .int .i64 k, j.val, kept0] w fun e w' => e = .returned (.tuple #[.agg cs.toArray, .int .i64 (rerr false sh k j)]) ∧ Below w.heap.size w w' := by
 obtain ⟨s0, s1, s2, s3, s4, s5⟩ := sh
 simp only at h5
 obtain ⟨kind, a, b, c, hh⟩ := j
 by_cases k1 : kind = 1
 ·subst k1
  by_cases hb : b = 0 ∨ b = 1
  ·by_cases hc : c = 0 ∨ c = 1
   ·have he : rerr false ⟨s0, s1, s2, s3, s4, s5⟩ k ⟨1, a, b, c, hh⟩ = 0 := by simp [rerr, hb, hc]
    rw [he]
    exact ⟨_, tk_is ⟨s0, s1, s2, s3, s4, s5⟩ k ⟨1, 0, if (b == 1) = true then 1 else 0, if c = 0 then 0 else 1, 0⟩ 1 .zero ⟨false, 0⟩, fun _ => rep_make (sh := ⟨s0, s1, s2, s3, s4, s5⟩) k (j := ⟨1, a, b, c, hh⟩) hw rfl, fun w => rst_make w s0 s1 s2 s3 s4 s5 k a b c hh hb hc⟩
   ·have he : rerr false ⟨s0, s1, s2, s3, s4, s5⟩ k ⟨1, a, b, c, hh⟩ = 2 := by simp [rerr, hc]
    rw [he]
    refine ⟨tk0, tk0_is, fun h => absurd h (by decide), fun w => ?_⟩
    by_cases hc1 : c < 0
    ·exact rst_c1 w s0 s1 s2 s3 s4 s5 k a b c hh hb hc1
    ·exact rst_c2 w s0 s1 s2 s3 s4 s5 k a b c hh hb (by omega)
  ·have he : rerr false ⟨s0, s1, s2, s3, s4, s5⟩ k ⟨1, a, b, c, hh⟩ = 2 := by simp [rerr, hb]
   rw [he]
   refine ⟨tk0, tk0_is, fun h => absurd h (by decide), fun w => ?_⟩
   by_cases hb1 : b < 0
   ·exact rst_b1 w s0 s1 s2 s3 s4 s5 k a b c hh hb1
   ·exact rst_b2 w s0 s1 s2 s3 s4 s5 k a b c hh (by omega)
 ·by_cases k2 : kind = 2
  ·subst k2
   by_cases ht : there ⟨s0, s1, s2, s3, s4, s5⟩ a
   ·have he : rerr false ⟨s0, s1, s2, s3, s4, s5⟩ k ⟨2, a, b, c, hh⟩ = 0 := by simp [rerr, ht]
    rw [he]
    have ha : a ≤ 9223372036854775807 := by have h' := ht.2; have := h5.1.2; simp only at h'; omega
    exact ⟨_, tk_is ⟨s0, s1, s2, s3, s4, s5⟩ k ⟨2, a, 0, 0, 0⟩ (if slotIn ⟨s0, s1, s2, s3, s4, s5⟩ a 0 then 1 else 2) .zero ⟨false, 0⟩, fun _ => rep_give (sh := ⟨s0, s1, s2, s3, s4, s5⟩) k (j := ⟨2, a, b, c, hh⟩) hw (by simp) ha, fun w => rst_give w s0 s1 s2 s3 s4 s5 k a b c hh h5 ht⟩
   ·have he : rerr false ⟨s0, s1, s2, s3, s4, s5⟩ k ⟨2, a, b, c, hh⟩ = 2 := by simp [rerr, ht]
    rw [he]
    refine ⟨tk0, tk0_is, fun h => absurd h (by decide), fun w => ?_⟩
    by_cases ha1 : a < 1
    ·exact rst_a1 w s0 s1 s2 s3 s4 s5 k a b c hh ha1
    ·exact rst_a2 w s0 s1 s2 s3 s4 s5 k a b c hh ha1 (by unfold there at ht; simp only at ht; omega)
  ·have he : rerr false ⟨s0, s1, s2, s3, s4, s5⟩ k ⟨kind, a, b, c, hh⟩ = 200 := by simp [rerr, k1, k2]
   rw [he]
   exact ⟨tk0, tk0_is, fun h => absurd h (by decide), fun w => rst_kind w s0 s1 s2 s3 s4 s5 k kind a b c hh k1 k2⟩
theorem tk_kept (sh : Shp) (hand : Int) (j : Jb) (st : Int) (r : Rg) (a : Ans) (q : Nat) (hq : q < 4) : (tk sh hand j st r a)[24 + q]? = some (.int .u64 0) := by
 match q, hq with
 | 0, _ | 1, _ | 2, _ | 3, _ => rfl
theorem slot_next {sh : Shp} {a sl : Int} (h : slotIn sh a sl) : slotIn sh a (sl + 1) ↔ sl + 1 < sh.b := by
 obtain ⟨h1, h2, h3⟩ := h
 unfold slotIn
 constructor
 ·intro h; exact h.2.2
 ·intro h; exact ⟨h1, by omega, h⟩
theorem use_eq {j : Jb} (gn : Int) : useW j gn = 1 + col j * 2 + bfin j * 4 + gn * 4294967296 := by
 unfold useW packW ownB bfin
 by_cases hc : j.c = 0
 ·cases hf : fin j <;> simp [col, hc, bit] <;> omega
 ·cases hf : fin j <;> simp [col, hc, bit] <;> omega
theorem rstep_any {any : Bool} {sh : Shp} (h5 : Shape.R5 sh.a sh.b sh.c sh.d sh.e) (cs : List Value) (s : RmS) (hcs : IsTk cs) (hrep : repR sh cs s) (n : Nat) (f : Nat → Int) (hf : ∀ i, i < n → 0 ≤ f i ∧ f i ≤ 18446744073709551615) :
  ∃ cs', IsTk cs' ∧ (¬ rends sh s (stepOf n f (rreq sh s)) = true → repR sh cs' (rnext sh s (stepOf n f (rreq sh s)))) ∧
  (rends sh s (stepOf n f (rreq sh s)) = true → cs'[22]? = some (.bool (rnext sh s (stepOf n f (rreq sh s))).told.ok) ∧ cs'[23]? = some (.int .u64 (rnext sh s (stepOf n f (rreq sh s))).told.val)) ∧ (∀ q, q < 4 → cs'[24 + q]? = some (.int .u64 0)) ∧
  ∀ (w : World) (g cap : Nat), IsRow w g n cap f → Calls Tryz.prog 27 #[.agg cs.toArray, .slice (some ⟨g, 0, none⟩) n cap] w fun e w' => e = .returned (.tuple #[.agg cs'.toArray, (stepOf n f (rreq sh s)).val, .bool (rends sh s (stepOf n f (rreq sh s)))]) ∧ IsRow w' g n cap (wordsOf n f (rreq sh s)) ∧ w.grownBy w' (some g) := by
 obtain ⟨H, htold, hrep⟩ := hrep
 have hxh := had_bounds hf (rreq sh s)
 obtain ⟨x, hx⟩ : ∃ x, stepOf n f (rreq sh s) = x := ⟨_, rfl⟩
 obtain ⟨f', hf'⟩ : ∃ f', wordsOf n f (rreq sh s) = f' := ⟨_, rfl⟩
 rw [hx] at hxh
 rw [hx, hf']
 have Hn : ¬ rends sh s x = true → Wf sh (rnext sh s x) := fun h => rnext_wf h5.2.1 H hxh h
 obtain ⟨hst, hh, hg, hgn, hth, hxb, hsl, hsl2, hab⟩ := H
 obtain ⟨hand, j, st, gg, xb, gn, sl, told⟩ := s
 simp only at hst hh hg hgn hth hxb hsl hsl2 hab htold hx hf'
 subst htold
 have hcol : col j = 0 ∨ col j = 1 := by unfold col; split <;> simp
 have hbf : bfin j = 0 ∨ bfin j = 1 := by unfold bfin; split <;> simp
 have hix := idx_lo x.had
 have hix' := idx_hi x.had
 have hgd : 0 ≤ x.had / 4294967296 ∧ x.had / 4294967296 ≤ 4294967295 := by omega
 unfold rTk at hrep
 simp only at hrep
 rcases hst with ⟨hk, hst⟩ | ⟨hk, hst⟩
 ·rw [if_pos hk] at hrep
  obtain ⟨r0, r1, r2, r3, rfl, b0, b1, b2, b3, e0, e2, e3⟩ := hrep
  rcases hst with rfl | rfl | rfl | rfl | rfl | rfl
  ·have er : rreq sh ⟨hand, j, 0, gg, xb, gn, sl, ⟨false, 0⟩⟩ = ⟨hand, 1, 1, 0, 0, true⟩ := by simp [rreq, hk]
   rw [er] at hx hf'
   by_cases ht : there sh (idx x.had)
   ·have e1' : rends sh ⟨hand, j, 0, gg, xb, gn, sl, ⟨false, 0⟩⟩ x = false := by simp [rends, hk, ht]
    rw [e1'] at Hn ⊢
    have e2' : rnext sh ⟨hand, j, 0, gg, xb, gn, sl, ⟨false, 0⟩⟩ x = ⟨hand, j, 1, x.had, xb, gn, sl, ⟨false, 0⟩⟩ := by simp [rnext, hk, ht]
    rw [e2'] at Hn ⊢
    rw [show ((0 : Int) + 1) = 1 from by decide]
    refine ⟨_, tk_is sh hand ⟨1, 0, bfin j, col j, 0⟩ 2 ⟨x.had, idx x.had, r2, r3, 0, 0, 0, 0⟩ ⟨false, 0⟩, fun h => ⟨Hn h, rfl, ?_⟩, fun h => absurd h (by decide), fun q hq => tk_kept _ _ _ _ _ _ q hq, fun w g cap hr => rstepM (tk_is _ _ _ _ _ _) (tk_is _ _ _ _ _ _) rfl hr (fun w1 r1' => rm0_yes (r0 := r0) (r2 := r2) (r3 := r3) r1' h5 b1 hxh ht hx hf')⟩
    unfold rTk
    rw [if_pos (show j.kind = 1 from hk)]
    exact ⟨x.had, idx x.had, r2, r3, rfl, hxh, ⟨hix, hix'⟩, b2, b3, fun _ => ⟨rfl, rfl⟩, fun h => absurd h (by simp), fun h => absurd h (by simp)⟩
   ·have e1' : rends sh ⟨hand, j, 0, gg, xb, gn, sl, ⟨false, 0⟩⟩ x = true := by simp [rends, hk, ht]
    rw [e1'] at Hn ⊢
    have e2' : rnext sh ⟨hand, j, 0, gg, xb, gn, sl, ⟨false, 0⟩⟩ x = ⟨hand, j, 0, x.had, xb, gn, sl, ⟨false, 0⟩⟩ := by simp [rnext, hk, ht]
    rw [e2']
    rw [show ((0 : Int) + 1) = 1 from by decide]
    exact ⟨_, tk_is sh hand ⟨1, 0, bfin j, col j, 0⟩ 1 ⟨x.had, idx x.had, r2, r3, 0, 0, 0, 0⟩ ⟨false, 0⟩, fun h => absurd rfl h, fun h => ⟨rfl, rfl⟩, fun q hq => tk_kept _ _ _ _ _ _ q hq, fun w g cap hr => rstepM (tk_is _ _ _ _ _ _) (tk_is _ _ _ _ _ _) rfl hr (fun w1 r1' => rm0_no (r0 := r0) (r2 := r2) (r3 := r3) r1' h5 b1 hxh ht hx hf')⟩
  ·have er : rreq sh ⟨hand, j, 1, gg, xb, gn, sl, ⟨false, 0⟩⟩ = ⟨hand, 1, linkAt sh (idx gg), 0, 0, true⟩ := by simp [rreq, hk]
   obtain ⟨rfl, rfl⟩ := e0 (by decide)
   rw [er] at hx hf'
   have e1' : rends sh ⟨hand, j, 1, r0, xb, gn, sl, ⟨false, 0⟩⟩ x = false := by simp [rends, hk]
   rw [e1'] at Hn ⊢
   have e2' : rnext sh ⟨hand, j, 1, r0, xb, gn, sl, ⟨false, 0⟩⟩ x = ⟨hand, j, 2, r0, idx x.had, gn, sl, ⟨false, 0⟩⟩ := by simp [rnext, hk]
   rw [e2'] at Hn ⊢
   rw [show ((1 : Int) + 1) = 2 from by decide]
   refine ⟨_, tk_is sh hand ⟨1, 0, bfin j, col j, 0⟩ 3 ⟨r0, idx r0, x.had, r3, 0, 0, 0, 0⟩ ⟨false, 0⟩, fun h => ⟨Hn h, rfl, ?_⟩, fun h => absurd h (by decide), fun q hq => tk_kept _ _ _ _ _ _ q hq, fun w g cap hr => rstepM (tk_is _ _ _ _ _ _) (tk_is _ _ _ _ _ _) rfl hr (fun w1 r1' => rm1_any (r0 := r0) (r2 := r2) (r3 := r3) r1' h5 b1 hx hf')⟩
   unfold rTk
   rw [if_pos (show j.kind = 1 from hk)]
   exact ⟨r0, idx r0, x.had, r3, rfl, b0, b1, hxh, b3, fun _ => ⟨rfl, rfl⟩, fun _ => rfl, fun h => absurd h (by simp)⟩
  ·have er : rreq sh ⟨hand, j, 2, gg, xb, gn, sl, ⟨false, 0⟩⟩ = ⟨hand, 5, 1, gg, bmp gg xb, true⟩ := by simp [rreq, hk]
   obtain ⟨rfl, rfl⟩ := e0 (by decide)
   have ex := e2 rfl
   subst ex
   rw [er] at hx hf'
   cases hok : x.ok with
   | true =>
    have e1' : rends sh ⟨hand, j, 2, r0, (idx r2), gn, sl, ⟨false, 0⟩⟩ x = false := by simp [rends, hk, hok]
    rw [e1'] at Hn ⊢
    have e2' : rnext sh ⟨hand, j, 2, r0, (idx r2), gn, sl, ⟨false, 0⟩⟩ x = ⟨hand, j, 3, r0, idx r2, gn, sl, ⟨false, 0⟩⟩ := by simp [rnext, hk, hok]
    rw [e2'] at Hn ⊢
    rw [show ((2 : Int) + 1) = 3 from by decide]
    refine ⟨_, tk_is sh hand ⟨1, 0, bfin j, col j, 0⟩ 4 ⟨r0, idx r0, r2, r3, 0, 0, 0, 0⟩ ⟨false, 0⟩, fun h => ⟨Hn h, rfl, ?_⟩, fun h => absurd h (by decide), fun q hq => tk_kept _ _ _ _ _ _ q hq, fun w g cap hr => rstepM (tk_is _ _ _ _ _ _) (tk_is _ _ _ _ _ _) rfl hr (fun w1 r1' => (by have h := rm2_any (bj := bfin j) (cj := col j) (r3 := r3) r1' h5 b1 b0 b2 hx hf'; rw [if_pos hok] at h; exact h))⟩
    unfold rTk
    rw [if_pos (show j.kind = 1 from hk)]
    exact ⟨r0, idx r0, r2, r3, rfl, b0, b1, b2, b3, fun _ => ⟨rfl, rfl⟩, fun h => absurd h (by simp), fun h => absurd h (by simp)⟩
   | false =>
    have e1' : rends sh ⟨hand, j, 2, r0, (idx r2), gn, sl, ⟨false, 0⟩⟩ x = false := by simp [rends, hk, hok]
    rw [e1'] at Hn ⊢
    have e2' : rnext sh ⟨hand, j, 2, r0, (idx r2), gn, sl, ⟨false, 0⟩⟩ x = ⟨hand, j, 0, r0, idx r2, gn, sl, ⟨false, 0⟩⟩ := by simp [rnext, hk, hok]
    rw [e2'] at Hn ⊢
    rw [show ((2 : Int) + 1) = 3 from by decide]
    refine ⟨_, tk_is sh hand ⟨1, 0, bfin j, col j, 0⟩ 1 ⟨r0, idx r0, r2, r3, 0, 0, 0, 0⟩ ⟨false, 0⟩, fun h => ⟨Hn h, rfl, ?_⟩, fun h => absurd h (by decide), fun q hq => tk_kept _ _ _ _ _ _ q hq, fun w g cap hr => rstepM (tk_is _ _ _ _ _ _) (tk_is _ _ _ _ _ _) rfl hr (fun w1 r1' => (by have h := rm2_any (bj := bfin j) (cj := col j) (r3 := r3) r1' h5 b1 b0 b2 hx hf'; rw [if_neg (by rw [hok]; decide)] at h; exact h))⟩
    unfold rTk
    rw [if_pos (show j.kind = 1 from hk)]
    exact ⟨r0, idx r0, r2, r3, rfl, b0, b1, b2, b3, fun h => absurd rfl h, fun h => absurd h (by simp), fun h => absurd h (by simp)⟩
  ·have er : rreq sh ⟨hand, j, 3, gg, xb, gn, sl, ⟨false, 0⟩⟩ = ⟨hand, 1, headAt sh (idx gg), 0, 0, true⟩ := by simp [rreq, hk]
   obtain ⟨rfl, rfl⟩ := e0 (by decide)
   rw [er] at hx hf'
   have e1' : rends sh ⟨hand, j, 3, r0, xb, gn, sl, ⟨false, 0⟩⟩ x = false := by simp [rends, hk]
   rw [e1'] at Hn ⊢
   have e2' : rnext sh ⟨hand, j, 3, r0, xb, gn, sl, ⟨false, 0⟩⟩ x = ⟨hand, j, 4, r0, xb, x.had / 4294967296, sl, ⟨false, 0⟩⟩ := by simp [rnext, hk]
   rw [e2'] at Hn ⊢
   rw [show ((3 : Int) + 1) = 4 from by decide]
   refine ⟨_, tk_is sh hand ⟨1, 0, bfin j, col j, 0⟩ 5 ⟨r0, idx r0, r2, x.had / 4294967296, 0, 0, 0, 0⟩ ⟨false, 0⟩, fun h => ⟨Hn h, rfl, ?_⟩, fun h => absurd h (by decide), fun q hq => tk_kept _ _ _ _ _ _ q hq, fun w g cap hr => rstepM (tk_is _ _ _ _ _ _) (tk_is _ _ _ _ _ _) rfl hr (fun w1 r1' => rm3_any (r0 := r0) (r2 := r2) (r3 := r3) r1' h5 b1 hxh hx hf')⟩
   unfold rTk
   rw [if_pos (show j.kind = 1 from hk)]
   exact ⟨r0, idx r0, r2, x.had / 4294967296, rfl, b0, b1, b2, hgd, fun _ => ⟨rfl, rfl⟩, fun h => absurd h (by simp), fun _ => rfl⟩
  ·have er : rreq sh ⟨hand, j, 4, gg, xb, gn, sl, ⟨false, 0⟩⟩ = ⟨hand, 2, headAt sh (idx gg), 0, useW j gn, true⟩ := by simp [rreq, hk]
   obtain ⟨rfl, rfl⟩ := e0 (by decide)
   have ex := e3 (.inl rfl)
   subst ex
   rw [er] at hx hf'
   have e1' : rends sh ⟨hand, j, 4, r0, xb, r3, sl, ⟨false, 0⟩⟩ x = false := by simp [rends, hk]
   rw [e1'] at Hn ⊢
   have e2' : rnext sh ⟨hand, j, 4, r0, xb, r3, sl, ⟨false, 0⟩⟩ x = ⟨hand, j, 5, r0, xb, r3, sl, ⟨false, 0⟩⟩ := by simp [rnext, hk]
   rw [e2'] at Hn ⊢
   rw [show ((4 : Int) + 1) = 5 from by decide]
   refine ⟨_, tk_is sh hand ⟨1, 0, bfin j, col j, 0⟩ 6 ⟨r0, idx r0, r2, r3, 0, 0, 0, 0⟩ ⟨false, 0⟩, fun h => ⟨Hn h, rfl, ?_⟩, fun h => absurd h (by decide), fun q hq => tk_kept _ _ _ _ _ _ q hq, fun w g cap hr => rstepM (tk_is _ _ _ _ _ _) (tk_is _ _ _ _ _ _) rfl hr (fun w1 r1' => rm4_any (r0 := r0) (r2 := r2) (r3 := r3) r1' h5 b1 hbf hcol b3 (use_eq r3) hx hf')⟩
   unfold rTk
   rw [if_pos (show j.kind = 1 from hk)]
   exact ⟨r0, idx r0, r2, r3, rfl, b0, b1, b2, b3, fun _ => ⟨rfl, rfl⟩, fun h => absurd h (by simp), fun _ => rfl⟩
  ·have er : rreq sh ⟨hand, j, 5, gg, xb, gn, sl, ⟨false, 0⟩⟩ = ⟨hand, 4, 4, 0, 1, true⟩ := by simp [rreq, hk]
   obtain ⟨rfl, rfl⟩ := e0 (by decide)
   have ex := e3 (.inr rfl)
   subst ex
   rw [er] at hx hf'
   have e1' : rends sh ⟨hand, j, 5, r0, xb, r3, sl, ⟨false, 0⟩⟩ x = true := by simp [rends, hk]
   rw [e1'] at Hn ⊢
   have e2' : rnext sh ⟨hand, j, 5, r0, xb, r3, sl, ⟨false, 0⟩⟩ x = ⟨hand, j, 5, r0, xb, r3, sl, ⟨true, hd (idx r0) r3⟩⟩ := by simp [rnext, hk]
   rw [e2']
   rw [show ((5 : Int) + 1) = 6 from by decide]
   exact ⟨_, tk_is sh hand ⟨1, 0, bfin j, col j, 0⟩ 6 ⟨r0, idx r0, r2, r3, 0, 0, 0, 0⟩ ⟨true, hd (idx r0) r3⟩, fun h => absurd rfl h, fun h => ⟨rfl, rfl⟩, fun q hq => tk_kept _ _ _ _ _ _ q hq, fun w g cap hr => rstepM (tk_is _ _ _ _ _ _) (tk_is _ _ _ _ _ _) rfl hr (fun w1 r1' => rm5_any (r0 := r0) (r2 := r2) (r3 := r3) r1' h5 b1 b3 hx hf')⟩
 ·rw [if_neg hk] at hrep
  obtain ⟨r0, r1, r2, rfl, b2, e0, e1, e2⟩ := hrep
  rcases hst with rfl | rfl | rfl | rfl | rfl | rfl | rfl
  ·have er : rreq sh ⟨hand, j, 0, gg, xb, gn, sl, ⟨false, 0⟩⟩ = ⟨hand, 2, slotAt sh j.a sl, 0, 0, true⟩ := by simp [rreq, hk]
   have ex := e0 rfl
   subst ex
   have hs := hsl hk rfl
   rw [er] at hx hf'
   by_cases ht : slotIn sh j.a (r0 + 1)
   ·have e1' : rends sh ⟨hand, j, 0, gg, xb, gn, r0, ⟨false, 0⟩⟩ x = false := by simp [rends, hk, ht]
    rw [e1'] at Hn ⊢
    have e2' : rnext sh ⟨hand, j, 0, gg, xb, gn, r0, ⟨false, 0⟩⟩ x = ⟨hand, j, 0, gg, xb, gn, r0 + 1, ⟨false, 0⟩⟩ := by simp [rnext, hk, ht]
    rw [e2'] at Hn ⊢
    rw [show ((0 : Int) + 1) = 1 from by decide]
    refine ⟨_, tk_is sh hand ⟨2, j.a, 0, 0, 0⟩ 1 ⟨r0 + 1, r1, r2, 0, 0, 0, 0, 0⟩ ⟨false, 0⟩, fun h => ⟨Hn h, rfl, ?_⟩, fun h => absurd h (by decide), fun q hq => tk_kept _ _ _ _ _ _ q hq, fun w g cap hr => rstepG (tk_is _ _ _ _ _ _) (tk_is _ _ _ _ _ _) rfl hr (fun w1 r1' => rg0_more (r0 := r0) (r1 := r1) (r2 := r2) r1' h5 hs ((slot_next hs).1 ht) hx hf')⟩
    unfold rTk
    rw [if_neg (show ¬ j.kind = 1 from hk)]
    exact ⟨r0 + 1, r1, r2, rfl, b2, fun _ => rfl, fun h => absurd h (by simp), fun h => absurd h (by simp)⟩
   ·have e1' : rends sh ⟨hand, j, 0, gg, xb, gn, r0, ⟨false, 0⟩⟩ x = false := by simp [rends, hk, ht]
    rw [e1'] at Hn ⊢
    have e2' : rnext sh ⟨hand, j, 0, gg, xb, gn, r0, ⟨false, 0⟩⟩ x = ⟨hand, j, 1, gg, xb, gn, r0 + 1, ⟨false, 0⟩⟩ := by simp [rnext, hk, ht]
    rw [e2'] at Hn ⊢
    rw [show ((0 : Int) + 1) = 1 from by decide]
    refine ⟨_, tk_is sh hand ⟨2, j.a, 0, 0, 0⟩ 2 ⟨r0 + 1, r1, r2, 0, 0, 0, 0, 0⟩ ⟨false, 0⟩, fun h => ⟨Hn h, rfl, ?_⟩, fun h => absurd h (by decide), fun q hq => tk_kept _ _ _ _ _ _ q hq, fun w g cap hr => rstepG (tk_is _ _ _ _ _ _) (tk_is _ _ _ _ _ _) rfl hr (fun w1 r1' => rg0_last (r0 := r0) (r1 := r1) (r2 := r2) r1' h5 hs (fun h => ht ((slot_next hs).2 h)) hx hf')⟩
    unfold rTk
    rw [if_neg (show ¬ j.kind = 1 from hk)]
    exact ⟨r0 + 1, r1, r2, rfl, b2, fun h => absurd h (by simp), fun h => absurd h (by simp), fun h => absurd h (by simp)⟩
  ·have er : rreq sh ⟨hand, j, 1, gg, xb, gn, sl, ⟨false, 0⟩⟩ = ⟨hand, 1, headAt sh j.a, 0, 0, true⟩ := by simp [rreq, hk]
   rw [er] at hx hf'
   have e1' : rends sh ⟨hand, j, 1, gg, xb, gn, sl, ⟨false, 0⟩⟩ x = false := by simp [rends, hk]
   rw [e1'] at Hn ⊢
   have e2' : rnext sh ⟨hand, j, 1, gg, xb, gn, sl, ⟨false, 0⟩⟩ x = ⟨hand, j, 2, gg, xb, x.had / 4294967296, sl, ⟨false, 0⟩⟩ := by simp [rnext, hk]
   rw [e2'] at Hn ⊢
   rw [show ((1 : Int) + 1) = 2 from by decide]
   refine ⟨_, tk_is sh hand ⟨2, j.a, 0, 0, 0⟩ 3 ⟨r0, x.had / 4294967296, r2, 0, 0, 0, 0, 0⟩ ⟨false, 0⟩, fun h => ⟨Hn h, rfl, ?_⟩, fun h => absurd h (by decide), fun q hq => tk_kept _ _ _ _ _ _ q hq, fun w g cap hr => rstepG (tk_is _ _ _ _ _ _) (tk_is _ _ _ _ _ _) rfl hr (fun w1 r1' => rg1_any (r0 := r0) (r1 := r1) (r2 := r2) r1' h5 hxh hx hf')⟩
   unfold rTk
   rw [if_neg (show ¬ j.kind = 1 from hk)]
   exact ⟨r0, x.had / 4294967296, r2, rfl, b2, fun h => absurd h (by simp), fun _ => rfl, fun h => absurd h (by simp)⟩
  ·have ex := e1 rfl
   subst ex
   by_cases hq : r1 = 4294967295
   ·have er : rreq sh ⟨hand, j, 2, gg, xb, r1, sl, ⟨false, 0⟩⟩ = ⟨hand, 2, headAt sh j.a, 0, hd 0 r1, true⟩ := by simp [rreq, hk, nxg, hq]
    rw [er] at hx hf'
    have e1' : rends sh ⟨hand, j, 2, gg, xb, r1, sl, ⟨false, 0⟩⟩ x = false := by simp [rends, hk, hq]
    rw [e1'] at Hn ⊢
    have e2' : rnext sh ⟨hand, j, 2, gg, xb, r1, sl, ⟨false, 0⟩⟩ x = ⟨hand, j, 6, gg, xb, r1, sl, ⟨false, 0⟩⟩ := by simp [rnext, hk, hq]
    rw [e2'] at Hn ⊢
    rw [show ((2 : Int) + 1) = 3 from by decide]
    refine ⟨_, tk_is sh hand ⟨2, j.a, 0, 0, 0⟩ 7 ⟨r0, r1, r2, 0, 0, 0, 0, 0⟩ ⟨false, 0⟩, fun h => ⟨Hn h, rfl, ?_⟩, fun h => absurd h (by decide), fun q hq => tk_kept _ _ _ _ _ _ q hq, fun w g cap hr => rstepG (tk_is _ _ _ _ _ _) (tk_is _ _ _ _ _ _) rfl hr (fun w1 r1' => rg2_last (r0 := r0) (r1 := r1) (r2 := r2) r1' h5 hgn (by simpa using hq) hx hf')⟩
    unfold rTk
    rw [if_neg (show ¬ j.kind = 1 from hk)]
    exact ⟨r0, r1, r2, rfl, b2, fun h => absurd h (by simp), fun h => absurd h (by simp), fun h => absurd h (by simp)⟩
   ·have er : rreq sh ⟨hand, j, 2, gg, xb, r1, sl, ⟨false, 0⟩⟩ = ⟨hand, 2, headAt sh j.a, 0, hd 0 (r1 + 1), true⟩ := by simp [rreq, hk, nxg, hq]
    rw [er] at hx hf'
    have e1' : rends sh ⟨hand, j, 2, gg, xb, r1, sl, ⟨false, 0⟩⟩ x = false := by simp [rends, hk, hq]
    rw [e1'] at Hn ⊢
    have e2' : rnext sh ⟨hand, j, 2, gg, xb, r1, sl, ⟨false, 0⟩⟩ x = ⟨hand, j, 3, gg, xb, r1, sl, ⟨false, 0⟩⟩ := by simp [rnext, hk, hq]
    rw [e2'] at Hn ⊢
    rw [show ((2 : Int) + 1) = 3 from by decide]
    refine ⟨_, tk_is sh hand ⟨2, j.a, 0, 0, 0⟩ 4 ⟨r0, r1, r2, 0, 0, 0, 0, 0⟩ ⟨false, 0⟩, fun h => ⟨Hn h, rfl, ?_⟩, fun h => absurd h (by decide), fun q hq => tk_kept _ _ _ _ _ _ q hq, fun w g cap hr => rstepG (tk_is _ _ _ _ _ _) (tk_is _ _ _ _ _ _) rfl hr (fun w1 r1' => rg2_next (r0 := r0) (r1 := r1) (r2 := r2) r1' h5 hgn (by simpa using hq) hx hf')⟩
    unfold rTk
    rw [if_neg (show ¬ j.kind = 1 from hk)]
    exact ⟨r0, r1, r2, rfl, b2, fun h => absurd h (by simp), fun h => absurd h (by simp), fun h => absurd h (by simp)⟩
  ·have er : rreq sh ⟨hand, j, 3, gg, xb, gn, sl, ⟨false, 0⟩⟩ = ⟨hand, 1, 1, 0, 0, true⟩ := by simp [rreq, hk]
   rw [er] at hx hf'
   have e1' : rends sh ⟨hand, j, 3, gg, xb, gn, sl, ⟨false, 0⟩⟩ x = false := by simp [rends, hk]
   rw [e1'] at Hn ⊢
   have e2' : rnext sh ⟨hand, j, 3, gg, xb, gn, sl, ⟨false, 0⟩⟩ x = ⟨hand, j, 4, x.had, xb, gn, sl, ⟨false, 0⟩⟩ := by simp [rnext, hk]
   rw [e2'] at Hn ⊢
   rw [show ((3 : Int) + 1) = 4 from by decide]
   refine ⟨_, tk_is sh hand ⟨2, j.a, 0, 0, 0⟩ 5 ⟨r0, r1, x.had, 0, 0, 0, 0, 0⟩ ⟨false, 0⟩, fun h => ⟨Hn h, rfl, ?_⟩, fun h => absurd h (by decide), fun q hq => tk_kept _ _ _ _ _ _ q hq, fun w g cap hr => rstepG (tk_is _ _ _ _ _ _) (tk_is _ _ _ _ _ _) rfl hr (fun w1 r1' => rg3_any (r0 := r0) (r1 := r1) (r2 := r2) r1' h5 hx hf')⟩
   unfold rTk
   rw [if_neg (show ¬ j.kind = 1 from hk)]
   exact ⟨r0, r1, x.had, rfl, hxh, fun h => absurd h (by simp), fun h => absurd h (by simp), fun _ => rfl⟩
  ·have er : rreq sh ⟨hand, j, 4, gg, xb, gn, sl, ⟨false, 0⟩⟩ = ⟨hand, 2, linkAt sh j.a, 0, idx gg, true⟩ := by simp [rreq, hk]
   have ex := e2 (.inl rfl)
   subst ex
   rw [er] at hx hf'
   have e1' : rends sh ⟨hand, j, 4, r2, xb, gn, sl, ⟨false, 0⟩⟩ x = false := by simp [rends, hk]
   rw [e1'] at Hn ⊢
   have e2' : rnext sh ⟨hand, j, 4, r2, xb, gn, sl, ⟨false, 0⟩⟩ x = ⟨hand, j, 5, r2, xb, gn, sl, ⟨false, 0⟩⟩ := by simp [rnext, hk]
   rw [e2'] at Hn ⊢
   rw [show ((4 : Int) + 1) = 5 from by decide]
   refine ⟨_, tk_is sh hand ⟨2, j.a, 0, 0, 0⟩ 6 ⟨r0, r1, r2, 0, 0, 0, 0, 0⟩ ⟨false, 0⟩, fun h => ⟨Hn h, rfl, ?_⟩, fun h => absurd h (by decide), fun q hq => tk_kept _ _ _ _ _ _ q hq, fun w g cap hr => rstepG (tk_is _ _ _ _ _ _) (tk_is _ _ _ _ _ _) rfl hr (fun w1 r1' => rg4_any (r0 := r0) (r1 := r1) (r2 := r2) r1' h5 b2 hx hf')⟩
   unfold rTk
   rw [if_neg (show ¬ j.kind = 1 from hk)]
   exact ⟨r0, r1, r2, rfl, b2, fun h => absurd h (by simp), fun h => absurd h (by simp), fun _ => rfl⟩
  ·have er : rreq sh ⟨hand, j, 5, gg, xb, gn, sl, ⟨false, 0⟩⟩ = ⟨hand, 5, 1, gg, bmp gg j.a, true⟩ := by simp [rreq, hk]
   have ex := e2 (.inr rfl)
   subst ex
   rw [er] at hx hf'
   cases hok : x.ok with
   | true =>
    have e1' : rends sh ⟨hand, j, 5, r2, xb, gn, sl, ⟨false, 0⟩⟩ x = false := by simp [rends, hk, hok]
    rw [e1'] at Hn ⊢
    have e2' : rnext sh ⟨hand, j, 5, r2, xb, gn, sl, ⟨false, 0⟩⟩ x = ⟨hand, j, 6, r2, xb, gn, sl, ⟨false, 0⟩⟩ := by simp [rnext, hk, hok]
    rw [e2'] at Hn ⊢
    rw [show ((5 : Int) + 1) = 6 from by decide]
    refine ⟨_, tk_is sh hand ⟨2, j.a, 0, 0, 0⟩ 7 ⟨r0, r1, r2, 0, 0, 0, 0, 0⟩ ⟨false, 0⟩, fun h => ⟨Hn h, rfl, ?_⟩, fun h => absurd h (by decide), fun q hq => tk_kept _ _ _ _ _ _ q hq, fun w g cap hr => rstepG (tk_is _ _ _ _ _ _) (tk_is _ _ _ _ _ _) rfl hr (fun w1 r1' => (by have h := rg5_any (r0 := r0) (r1 := r1) r1' h5 b2 hx hf'; rw [if_pos hok] at h; exact h))⟩
    unfold rTk
    rw [if_neg (show ¬ j.kind = 1 from hk)]
    exact ⟨r0, r1, r2, rfl, b2, fun h => absurd h (by simp), fun h => absurd h (by simp), fun h => absurd h (by simp)⟩
   | false =>
    have e1' : rends sh ⟨hand, j, 5, r2, xb, gn, sl, ⟨false, 0⟩⟩ x = false := by simp [rends, hk, hok]
    rw [e1'] at Hn ⊢
    have e2' : rnext sh ⟨hand, j, 5, r2, xb, gn, sl, ⟨false, 0⟩⟩ x = ⟨hand, j, 3, r2, xb, gn, sl, ⟨false, 0⟩⟩ := by simp [rnext, hk, hok]
    rw [e2'] at Hn ⊢
    rw [show ((5 : Int) + 1) = 6 from by decide]
    refine ⟨_, tk_is sh hand ⟨2, j.a, 0, 0, 0⟩ 4 ⟨r0, r1, r2, 0, 0, 0, 0, 0⟩ ⟨false, 0⟩, fun h => ⟨Hn h, rfl, ?_⟩, fun h => absurd h (by decide), fun q hq => tk_kept _ _ _ _ _ _ q hq, fun w g cap hr => rstepG (tk_is _ _ _ _ _ _) (tk_is _ _ _ _ _ _) rfl hr (fun w1 r1' => (by have h := rg5_any (r0 := r0) (r1 := r1) r1' h5 b2 hx hf'; rw [if_neg (by rw [hok]; decide)] at h; exact h))⟩
    unfold rTk
    rw [if_neg (show ¬ j.kind = 1 from hk)]
    exact ⟨r0, r1, r2, rfl, b2, fun h => absurd h (by simp), fun h => absurd h (by simp), fun h => absurd h (by simp)⟩
  ·have er : rreq sh ⟨hand, j, 6, gg, xb, gn, sl, ⟨false, 0⟩⟩ = ⟨hand, 4, 5, 0, 1, true⟩ := by simp [rreq, hk]
   rw [er] at hx hf'
   have e1' : rends sh ⟨hand, j, 6, gg, xb, gn, sl, ⟨false, 0⟩⟩ x = true := by simp [rends, hk]
   rw [e1'] at Hn ⊢
   have e2' : rnext sh ⟨hand, j, 6, gg, xb, gn, sl, ⟨false, 0⟩⟩ x = ⟨hand, j, 6, gg, xb, gn, sl, ⟨true, mx0 j.a⟩⟩ := by simp [rnext, hk]
   rw [e2']
   rw [show ((6 : Int) + 1) = 7 from by decide]
   exact ⟨_, tk_is sh hand ⟨2, j.a, 0, 0, 0⟩ 7 ⟨r0, r1, r2, 0, 0, 0, 0, 0⟩ ⟨true, mx0 j.a⟩, fun h => absurd rfl h, fun h => ⟨rfl, rfl⟩, fun q hq => tk_kept _ _ _ _ _ _ q hq, fun w g cap hr => rstepG (tk_is _ _ _ _ _ _) (tk_is _ _ _ _ _ _) rfl hr (fun w1 r1' => rg6_any (r0 := r0) (r1 := r1) (r2 := r2) r1' h5 (hab hk) hx hf')⟩
theorem rkind {sh : Shp} (h5 : Shape.R5 sh.a sh.b sh.c sh.d sh.e) : RKind (kRom false sh) (repR sh) sh 39 27 :=
 ⟨fun k j _ _ hw => rstart_any h5 k j hw, fun cs s hcs hrep n f hf => rstep_any (any := false) h5 cs s hcs hrep n f hf⟩
end Rom
end
section
namespace L17
variable {K : Kd} {rep : List Value → K.σ → Prop} {sh : Shp} {w : World} {aoh aos : Option Addr} {caph caps : Nat} {P : Par} {most : Int}
theorem build77 {ev : Operand → Value} {o : Oper} {w : World} (ho : o.op = .build 57 #[]) : (execOp ev o).run Tryz.prog w = .ok (.value (.agg #[.int .u64 0, .int .u64 0, .int .u64 0, .int .u64 0])) w := by
 simp [execOp, ho, go_sem]
theorem callStartW (args : Array Value) (w : World) : (callFunc 39 args).run Tryz.prog w = .ok (.enter 39 args) w := by
 simp [go_sem]
theorem wrong_fine (RK : RKind K rep sh 39 27) (hjw : ∀ h, h < P.nh → ∀ j, j < P.jn h → (P.jb h j).wf) (SH : SeesH w w.heap.size aoh P.nh P.jn P.jb) (hl : ¬ LongHands P.nh P.jn) (hs : P.ns ≤ 65536) (hm0 : 0 ≤ most) (hm : most ≤ 65536) :
  Calls Tryz.prog 36 #[sh.val, .slice aoh P.nh caph, .slice aos P.ns caps, .int .i64 most] w fun e w' => Below w.heap.size w w' ∧ ((AllOk K P ∧ e = .returned (.int .i64 0)) ∨ ∃ er, FirstErr K P er ∧ e = .returned (.int .i64 er)) := by
 have hnh : P.nh ≤ 8 := by rcases Nat.lt_or_ge 8 P.nh with l | l; exact absurd (.inl l) hl; exact l
 have hjn : ∀ i, i < P.nh → P.jn i ≤ 256 := fun i hi => by rcases Nat.lt_or_ge 256 (P.jn i) with l | l; exact absurd (.inr ⟨i, hi, l⟩) hl; exact l
 have HSH := hide SH
 have HRK := hide RK
 have HJW := hide hjw
 have HL := hide hl
 have HJN := hide hjn
 obtain ⟨W1, hW1⟩ : ∃ W1, w.alloc (.cells #[.int .i64 sh.a, .int .i64 sh.b, .int .i64 sh.c, .int .i64 sh.d, .int .i64 sh.e, .int .i64 sh.f] 23) = W1 := ⟨_, rfl⟩
 have b1 : Below w.heap.size w W1 := by rw [← hW1]; exact (Below.refl _ w).alloc (Nat.le_refl _) _
 have sz1 : W1.heap.size = w.heap.size + 1 := by rw [← hW1]; simp
 have R1 := hide (show W1.rangeAt w.heap.size 0 [Value.int .i64 sh.a, .int .i64 sh.b, .int .i64 sh.c, .int .i64 sh.d, .int .i64 sh.e, .int .i64 sh.f] from by rw [← hW1]; exact rowIs.range (rowL_alloc w [Value.int .i64 sh.a, .int .i64 sh.b, .int .i64 sh.c, .int .i64 sh.d, .int .i64 sh.e, .int .i64 sh.f] 23 (n := 6) rfl) rfl)
 have BW := hide b1
 clear SH RK hjw hl hjn b1
 simp only [Shp.val]
 go_enter Tryz.func36, Tryz.ntmps36
 go_wp2_with (go_at_call 66; refine (fits_fine (HSH.out.below BW.out (Nat.le_refl _)) HL.out hs most hm 0 (.inl ⟨hm0, rfl⟩)).mono ?_; rintro e w' ⟨rfl, hw⟩; obtain rfl := hw.symm)
 go_loopw [9, 10] (fun e i wr => ∃ (k : Nat) (er : Int), k ≤ P.nh ∧ i = .int .i64 k ∧ Below W1.heap.size W1 wr ∧ e = .int .i64 er ∧ ((er = 0 ∧ ∀ h, h < k → ∀ j, j < P.jn h → K.err h (P.jb h j) = 0) ∨ FirstErr K P er)) (fun _ i _ => P.nh - (intOf i).toNat)
 case atStart => exact ⟨0, 0, Nat.zero_le _, rfl, Below.refl _ _, rfl, .inl ⟨rfl, fun h hh => absurd hh (Nat.not_lt_zero h)⟩⟩
 case round =>
  obtain ⟨wo, rfl⟩ : ∃ x, x = wr := ⟨_, rfl⟩
  obtain ⟨k, er, hk, rfl, hb, rfl, hcase⟩ := hrel
  have HB := hide hb
  clear hb
  rcases hcase with ⟨rfl, hall⟩ | hfe
  ·have HALL := hide hall
   clear hall
   by_cases hlt : k < P.nh
   ·have hkn : (k : Int) < (P.nh : Int) := by omega
    obtain ⟨b, off, ao', cap', hao, hbl, hcc, hjj⟩ := (HSH.out.below (BW.out.trans (HB.out.mono (by omega))) (Nat.le_refl _)) k hlt
    subst hao
    have hjk := HJN.out k hlt
    have HJJ := hide hjj
    clear hjj
    go_wp2_with fail
    go_loopw [9, 11] (fun e i wr => ∃ (q : Nat) (er : Int), q ≤ P.jn k ∧ i = .int .i64 q ∧ Below W1.heap.size W1 wr ∧ e = .int .i64 er ∧ ((er = 0 ∧ ∀ j, j < q → K.err k (P.jb k j) = 0) ∨ (FirstErr K P er ∧ ¬ er = 0))) (fun _ i _ => P.jn k - (intOf i).toNat)
    case atStart => exact ⟨0, 0, Nat.zero_le _, rfl, HB.out, rfl, .inl ⟨rfl, fun j hj => absurd hj (Nat.not_lt_zero j)⟩⟩
    case round =>
     obtain ⟨q, er, hq, rfl, hb2, rfl, hcase2⟩ := hrel
     have HB2' := hide hb2
     have hccr := (hb2.cell (p := ⟨b, off + k, none⟩) (by show b < _; omega)).trans ((HB.out.cell (p := ⟨b, off + k, none⟩) (by show b < _; omega)).symm.trans hcc)
     rcases hcase2 with ⟨rfl, hall2⟩ | ⟨hfe2, hne2⟩
     ·have HALL2 := hide hall2
      clear hall2
      by_cases hlq : q < P.jn k
      ·have hqn : (q : Int) < (P.jn k : Int) := by omega
       obtain ⟨b', off', hao', hbl', hc'⟩ := HJJ.out q hlq
       subst hao'
       obtain ⟨cs, hcs1, hcs2, hcs⟩ := HRK.out.start k (P.jb k q) (by omega) (by omega) (HJW.out k hlt q hlq)
       have ST := hide hcs
       obtain ⟨ev, hev⟩ : ∃ ev, K.err k (P.jb k q) = ev := ⟨_, rfl⟩
       rw [hev] at ST
       have HEV := hide hev
       have lwr : W1.heap.size ≤ wr.heap.size := hb2.size
       obtain ⟨jb, hjb⟩ : ∃ jb, P.jb k q = jb := ⟨_, rfl⟩
       rw [hjb] at hc' ST
       obtain ⟨jk, ja, jbb, jc, jh⟩ := jb
       simp only [Shp.val, Jb.val, kept0] at ST
       have W0 : Below wr.heap.size wr wr.drew ∧ wr.rangeAt w.heap.size 0 [Value.int .i64 sh.a, .int .i64 sh.b, .int .i64 sh.c, .int .i64 sh.d, .int .i64 sh.e, .int .i64 sh.f] ∧ wr.cell? ⟨b, off + k * 1, none⟩ = some (.slice (some ⟨b', off', none⟩) (P.jn k) cap') ∧ wr.rangeAt b' (off' + q * 5) [.int .i64 jk, .int .i64 ja, .int .i64 jbb, .int .i64 jc, .int .u64 jh] := by
        refine ⟨(Below.refl _ _).drew, rangeAt_block R1.out (hb2.block _ (by omega)), by rw [Nat.mul_one]; exact hccr, fun j v hv => ?_⟩
        have hj : j < 5 := (List.getElem?_eq_some_iff.1 hv).1
        rw [show wr.cell? ⟨b', off' + q * 5 + j, none⟩ = wo.cell? ⟨b', off' + q * 5 + j, none⟩ from (hb2.cell (p := ⟨b', off' + q * 5 + j, none⟩) (by show b' < _; omega)).trans (HB.out.cell (p := ⟨b', off' + q * 5 + j, none⟩) (by show b' < _; omega)).symm, hc' j hj]
        match j, hj with
        | 0, _ | 1, _ | 2, _ | 3, _ | 4, _ => exact congrArg some (Option.some.inj hv)
       have HW0 := hide W0
       obtain ⟨dJ, hdJ⟩ := row54
       obtain ⟨dS, hdS⟩ := row42
       have DJ := hide hdJ
       have DS := hide hdS
       clear W0 hcs hcs1 hcs2 hev hjb hc' hb2 hdJ hdS
       go_wp2_with fail
       ·
        refine Reg.region (t := (⟨[(0, 40), (1, 41), (2, 42), (3, 43), (4, 44), (5, 45), (6, 46), (7, 47), (8, 48), (9, 49), (11, 39), (12, 51), (13, 52), (14, 9)],
          fun i => match i with
           | 0 => .agg #[.int .i64 sh.a, .int .i64 sh.b, .int .i64 sh.c, .int .i64 sh.d, .int .i64 sh.e, .int .i64 sh.f]
           | 2 => .slice (some ⟨b, off, none⟩) P.nh caph
           | 4 => .pointer (some ⟨b, off + k * 1, none⟩)
           | 5 => .slice (some ⟨b', off', none⟩) (P.jn k) cap'
           | 6 => .int .i64 (q : Int)
           | 7 => .pointer (some ⟨b', off' + q * 5, none⟩)
           | 8 => .agg #[.int .i64 jk, .int .i64 ja, .int .i64 jbb, .int .i64 jc, .int .u64 jh]
           | 9 => .agg #[.int .u64 0, .int .u64 0, .int .u64 0, .int .u64 0]
           | 11 => .tuple #[.agg cs.toArray, .int .i64 ev]
           | 12 => .agg cs.toArray
           | 13 => .int .i64 ev
           | 14 => .int .i64 ev
           | _ => .int .i64 (k : Int),
          10, 50, .tuple #[.agg cs.toArray, .int .i64 ev], [], fun _ => (3, []), [], fun _ => []⟩ : Reg.TabL).tab)
         (WI := fun _ w' => Below wr.heap.size wr w' ∧ w'.rangeAt w.heap.size 0 [Value.int .i64 sh.a, .int .i64 sh.b, .int .i64 sh.c, .int .i64 sh.d, .int .i64 sh.e, .int .i64 sh.f] ∧ w'.cell? ⟨b, off + k * 1, none⟩ = some (.slice (some ⟨b', off', none⟩) (P.jn k) cap') ∧ w'.rangeAt b' (off' + q * 5) [.int .i64 jk, .int .i64 ja, .int .i64 jbb, .int .i64 jc, .int .u64 jh])
         (gw := w.heap.size) (by kernel_rfl) (Reg.TabL.ok _ rfl (fun i j hm => by simp at hm)) ?g8 ?b8 (by omega) ?alo ?sto ?dd HW0.out ?kinds ?fin
        case g8 =>
         intro i o ho
         have hi : i < 15 := by have := (Array.getElem?_eq_some_iff.1 ho).1; simpa using this
         match i, hi with
         | 0, _ | 1, _ | 2, _ | 3, _ | 4, _ | 5, _ | 6, _ | 7, _ | 8, _ | 9, _ | 10, _ | 11, _ | 12, _ | 13, _ | 14, _ => injection ho with ho; subst ho; rfl
        case b8 =>
         intro i o ho
         have hi : i < 15 := by have := (Array.getElem?_eq_some_iff.1 ho).1; simpa using this
         match i, hi with
         | 0, _ | 1, _ | 2, _ | 3, _ | 4, _ | 5, _ | 6, _ | 7, _ | 8, _ | 9, _ | 10, _ | 11, _ | 12, _ | 13, _ | 14, _ => injection ho with ho; subst ho; simp [Region.binds]
        case alo =>
         rintro _ w' o ⟨h0, h1, h2, h3⟩
         exact ⟨h0.alloc h0.size _, World.rangeAt_alloc h1 o, (World.cell?_alloc_lt _ _ _ (World.block_lt_of_cell? _ _ h2)).trans h2, World.rangeAt_alloc h3 o⟩
        case sto =>
         rintro _ w' x vs ⟨h0, h1, h2, h3⟩ hk
         have tt := touch_setCells x vs 0 w'
         exact ⟨h0.trans (tt.below (fun y hy => by omega) h0.size), rangeAt_block h1 (tt.block _ (World.block_lt_of_cell? _ _ (h1 0 _ rfl)) (by show w.heap.size ≠ x; omega)), (World.cell?_of_block (a := ⟨b, off + k * 1, none⟩) (tt.block _ (World.block_lt_of_cell? _ _ h2) (by show b ≠ x; omega))).trans h2, rangeAt_block h3 (tt.block _ (World.block_lt_of_cell? _ _ (h3 0 _ rfl)) (by show b' ≠ x; omega))⟩
        case dd =>
         intro x hx
         have hx' : x < 54 := by
          simp [Reg.TabL.tab] at hx
          omega
         simpa using hx'
        case kinds =>
         have hWb : ∀ w1 w2 : World, (Below wr.heap.size wr w1 ∧ w1.rangeAt w.heap.size 0 [Value.int .i64 sh.a, .int .i64 sh.b, .int .i64 sh.c, .int .i64 sh.d, .int .i64 sh.e, .int .i64 sh.f] ∧ w1.cell? ⟨b, off + k * 1, none⟩ = some (.slice (some ⟨b', off', none⟩) (P.jn k) cap') ∧ w1.rangeAt b' (off' + q * 5) [.int .i64 jk, .int .i64 ja, .int .i64 jbb, .int .i64 jc, .int .u64 jh]) → Below w1.heap.size w1 w2 → (Below wr.heap.size wr w2 ∧ w2.rangeAt w.heap.size 0 [Value.int .i64 sh.a, .int .i64 sh.b, .int .i64 sh.c, .int .i64 sh.d, .int .i64 sh.e, .int .i64 sh.f] ∧ w2.cell? ⟨b, off + k * 1, none⟩ = some (.slice (some ⟨b', off', none⟩) (P.jn k) cap') ∧ w2.rangeAt b' (off' + q * 5) [.int .i64 jk, .int .i64 ja, .int .i64 jbb, .int .i64 jc, .int .u64 jh]) := by
          rintro w1 w2 ⟨h0, h1, h2, h3⟩ hb
          exact ⟨h0.trans (hb.mono h0.size), rangeAt_block h1 (hb.block _ (World.block_lt_of_cell? _ _ (h1 0 _ rfl))), (hb.cell (p := ⟨b, off + k * 1, none⟩) (World.block_lt_of_cell? _ _ h2)).trans h2, rangeAt_block h3 (hb.block _ (World.block_lt_of_cell? _ _ (h3 0 _ rfl)))⟩
         intro i o ho
         have hi : i < 15 := by have := (Array.getElem?_eq_some_iff.1 ho).1; simpa using this
         match i, hi with
         | 0, _ => injection ho with ho; subst ho; exact .inl ⟨40, _, rfl, rfl, fun L a w' bk hI hd => ex_load_row rfl (hI.fix 4 (Reg.notD rfl)) hI.world.2.1 DS.out.1 DS.out.2 size42⟩
         | 1, _ => injection ho with ho; subst ho; exact .inl ⟨41, _, rfl, rfl, fun L a w' bk hI hd => ex_move rfl (hI.fix 10 (Reg.notD rfl))⟩
         | 2, _ => injection ho with ho; subst ho; exact .inl ⟨42, _, rfl, rfl, fun L a w' bk hI hd => ex_move rfl (hI.fix 1 (Reg.notD rfl))⟩
         | 3, _ => injection ho with ho; subst ho; exact .inl ⟨43, _, rfl, rfl, fun L a w' bk hI hd => ex_move rfl (hI.fix 10 (Reg.notD rfl))⟩
         | 4, _ => injection ho with ho; subst ho; exact .inl ⟨44, _, rfl, rfl, fun L a w' bk hI hd => ex_index rfl (hI.pure 2 _ _ rfl (hd ⟨2, .data⟩ (by simp) rfl)) (hI.pure 3 _ _ rfl (hd ⟨3, .data⟩ (by simp) rfl)) hlt Tryz.underlying25 sz52⟩
         | 5, _ => injection ho with ho; subst ho; exact .inl ⟨45, _, rfl, rfl, fun L a w' bk hI hd => ex_load rfl (hI.pure 4 _ _ rfl (hd ⟨4, .data⟩ (by simp) rfl)) (agg_no w').2.2.1 hI.world.2.2.1⟩
         | 6, _ => injection ho with ho; subst ho; exact .inl ⟨46, _, rfl, rfl, fun L a w' bk hI hd => ex_move rfl (hI.fix 11 (Reg.notD rfl))⟩
         | 7, _ => injection ho with ho; subst ho; exact .inl ⟨47, _, rfl, rfl, fun L a w' bk hI hd => ex_index rfl (hI.pure 5 _ _ rfl (hd ⟨5, .data⟩ (by simp) rfl)) (hI.pure 6 _ _ rfl (hd ⟨6, .data⟩ (by simp) rfl)) hlq Tryz.underlying64 sz54⟩
         | 8, _ => injection ho with ho; subst ho; exact .inl ⟨48, _, rfl, rfl, fun L a w' bk hI hd => ex_load_row rfl (hI.pure 7 _ _ rfl (hd ⟨7, .data⟩ (by simp) rfl)) hI.world.2.2.2 DJ.out.1 DJ.out.2 size54⟩
         | 9, _ => injection ho with ho; subst ho; exact .inl ⟨49, _, rfl, rfl, fun L a w' bk hI hd => build77 rfl⟩
         | 10, _ => injection ho with ho; subst ho; exact .inr (.inl ⟨rfl, rfl, fun L a w' bk K hI hL hd hk => wp_call (f := 39) (call4 rfl (hI.pure 0 _ _ rfl (hd ⟨0, .data⟩ (by simp) rfl)) (hI.pure 1 _ _ rfl (hd ⟨1, .data⟩ (by simp) rfl)) (hI.pure 8 _ _ rfl (hd ⟨8, .data⟩ (by simp) rfl)) (hI.pure 9 _ _ rfl (hd ⟨9, .data⟩ (by simp) rfl)) rfl (callStartW _ _)) ((ST.out w').mono (fun e w'' ⟨he, hb⟩ => ⟨_, he, hk w'' (hWb w' w'' hI.world hb) (Touch.of_below hb _)⟩))⟩)
         | 11, _ => injection ho with ho; subst ho; exact .inl ⟨39, _, rfl, rfl, fun L a w' bk hI hd => ex_move rfl (hI.call (hd ⟨10, .data⟩ (by simp) rfl))⟩
         | 12, _ => injection ho with ho; subst ho; exact .inl ⟨51, _, rfl, rfl, fun L a w' bk hI hd => ex_extract rfl (hI.pure 11 _ _ rfl (hd ⟨11, .data⟩ (by simp) rfl)) rfl⟩
         | 13, _ => injection ho with ho; subst ho; exact .inl ⟨52, _, rfl, rfl, fun L a w' bk hI hd => ex_extract rfl (hI.pure 11 _ _ rfl (hd ⟨11, .data⟩ (by simp) rfl)) rfl⟩
         | 14, _ => injection ho with ho; subst ho; exact .inl ⟨9, _, rfl, rfl, fun L a w' bk hI hd => ex_assign rfl (hI.pure 13 _ _ rfl (hd ⟨13, .data⟩ (by simp) rfl))⟩
        case fin =>
         intro L a' w' bk hI hall
         have ea := act_all a' 54 (by rw [hI.sz]; rfl) hI.df
         simp only [List.range, List.range.loop, List.map] at ea
         rw [hI.fix 0 (Reg.notD rfl), hI.fix 1 (Reg.notD rfl), hI.fix 2 (Reg.notD rfl), hI.fix 3 (Reg.notD rfl), hI.fix 4 (Reg.notD rfl), hI.fix 5 (Reg.notD rfl), hI.fix 6 (Reg.notD rfl), hI.fix 7 (Reg.notD rfl), hI.fix 8 (Reg.notD rfl), hI.fix 10 (Reg.notD rfl), hI.fix 11 (Reg.notD rfl), hI.fix 12 (Reg.notD rfl), hI.fix 13 (Reg.notD rfl), hI.fix 14 (Reg.notD rfl), hI.fix 15 (Reg.notD rfl), hI.fix 16 (Reg.notD rfl), hI.fix 17 (Reg.notD rfl), hI.fix 18 (Reg.notD rfl), hI.fix 19 (Reg.notD rfl), hI.fix 20 (Reg.notD rfl), hI.fix 21 (Reg.notD rfl), hI.fix 22 (Reg.notD rfl), hI.fix 23 (Reg.notD rfl), hI.fix 24 (Reg.notD rfl), hI.fix 25 (Reg.notD rfl), hI.fix 26 (Reg.notD rfl), hI.fix 27 (Reg.notD rfl), hI.fix 28 (Reg.notD rfl), hI.fix 29 (Reg.notD rfl), hI.fix 30 (Reg.notD rfl), hI.fix 31 (Reg.notD rfl), hI.fix 32 (Reg.notD rfl), hI.fix 33 (Reg.notD rfl), hI.fix 34 (Reg.notD rfl), hI.fix 35 (Reg.notD rfl), hI.fix 36 (Reg.notD rfl), hI.fix 37 (Reg.notD rfl), hI.fix 38 (Reg.notD rfl), hI.fix 53 (Reg.notD rfl)] at ea
         have p9 := hI.pure 14 9 _ rfl (hall 14 (by decide))
         have hbx := hI.world.1
         rw [p9] at ea
         clear hI hall p9
         generalize a'.eval (.tmp 39) = u39 at ea
         generalize a'.eval (.tmp 40) = u40 at ea
         generalize a'.eval (.tmp 41) = u41 at ea
         generalize a'.eval (.tmp 42) = u42 at ea
         generalize a'.eval (.tmp 43) = u43 at ea
         generalize a'.eval (.tmp 44) = u44 at ea
         generalize a'.eval (.tmp 45) = u45 at ea
         generalize a'.eval (.tmp 46) = u46 at ea
         generalize a'.eval (.tmp 47) = u47 at ea
         generalize a'.eval (.tmp 48) = u48 at ea
         generalize a'.eval (.tmp 49) = u49 at ea
         generalize a'.eval (.tmp 50) = u50 at ea
         generalize a'.eval (.tmp 51) = u51 at ea
         generalize a'.eval (.tmp 52) = u52 at ea
         simp only [show ∀ (ts : Array Value) (ds) (i : Nat), (Act.mk ts ds).eval (.tmp i) = ts.getD i undef from fun _ _ _ => rfl] at ea
         simp at ea
         subst ea
         go_wp2_with fail
         go_roundw
         case rel =>
          refine ⟨q + 1, ev, by omega, by go_num, HB2'.out.trans (hbx.mono HB2'.out.size), rfl, ?_⟩
          by_cases h0 : ev = 0
          ·exact .inl ⟨h0, fun j hj => by rcases Nat.lt_or_ge j q with l | l; exact HALL2.out j l; obtain rfl : j = q := (by omega); rw [HEV.out, h0]⟩
          ·exact .inr ⟨⟨k, q, hlt, hlq, HEV.out, h0, HALL.out, HALL2.out⟩, h0⟩
         case measure => simp [intOf]; omega
      ·have hqn : ¬ (q : Int) < (P.jn k : Int) := by omega
       go_wp2_with fail
       go_roundw
       case rel => exact ⟨k + 1, 0, by omega, by go_num, HB2'.out, rfl, .inl ⟨rfl, fun h hh j hj => by rcases Nat.lt_or_ge h k with l | l; exact HALL.out h l j hj; obtain rfl : h = k := (by omega); exact HALL2.out j (by omega)⟩⟩
       case measure => simp [intOf]; omega
     ·have HFE := hide hfe2
      clear hfe2
      by_cases hlq : q < P.jn k
      ·have hqn : (q : Int) < (P.jn k : Int) := by omega
       go_wp2_with fail
       go_roundw
       case rel => exact ⟨k + 1, er, by omega, by go_num, HB2'.out, rfl, .inr HFE.out⟩
       case measure => simp [intOf]; omega
      ·have hqn : ¬ (q : Int) < (P.jn k : Int) := by omega
       go_wp2_with fail
       go_roundw
       case rel => exact ⟨k + 1, er, by omega, by go_num, HB2'.out, rfl, .inr HFE.out⟩
       case measure => simp [intOf]; omega
   ·have hkn : ¬ (k : Int) < (P.nh : Int) := by omega
    go_wp2_with fail
    go_ret
    exact ⟨BW.out.trans (HB.out.mono (by omega)), .inl ⟨fun h hh j hj => HALL.out h (by omega) j hj, rfl⟩⟩
  ·have hne : ¬ er = 0 := by obtain ⟨_, _, _, _, _, h, _⟩ := hfe; exact h
   have HFE := hide hfe
   clear hfe
   by_cases hlt : k < P.nh
   ·have hkn : (k : Int) < (P.nh : Int) := by omega
    go_wp2_with fail
    go_ret
    exact ⟨BW.out.trans (HB.out.mono (by omega)), .inr ⟨er, HFE.out, rfl⟩⟩
   ·have hkn : ¬ (k : Int) < (P.nh : Int) := by omega
    go_wp2_with fail
    go_ret
    exact ⟨BW.out.trans (HB.out.mono (by omega)), .inr ⟨er, HFE.out, rfl⟩⟩
theorem wrong_fits (er : Int) (her : er ≠ 0) (h : ∀ w' : World, Below w.heap.size w w' → Calls Tryz.prog 66 #[.slice aoh P.nh caph, .slice aos P.ns caps, .int .i64 most] w' fun e w'' => e = .returned (.int .i64 er) ∧ w'' = w') :
  Calls Tryz.prog 36 #[sh.val, .slice aoh P.nh caph, .slice aos P.ns caps, .int .i64 most] w fun e w' => Below w.heap.size w w' ∧ e = .returned (.int .i64 er) := by
 have her' : ¬ er = 0 := her
 have HH := hide (h _ ((Below.refl _ w).alloc (Nat.le_refl _) (.cells #[.int .i64 sh.a, .int .i64 sh.b, .int .i64 sh.c, .int .i64 sh.d, .int .i64 sh.e, .int .i64 sh.f] 23)))
 clear h her
 simp only [Shp.val]
 go_enter Tryz.func36, Tryz.ntmps36
 go_wp2_with (go_at_call 66; refine HH.out.mono ?_; rintro e w' ⟨rfl, hw⟩; obtain rfl := hw.symm)
 go_loopw [9, 10] (fun e i wr => ∃ k : Nat, k ≤ P.nh ∧ e = .int .i64 er ∧ i = .int .i64 k ∧ wr = w.alloc (.cells #[.int .i64 sh.a, .int .i64 sh.b, .int .i64 sh.c, .int .i64 sh.d, .int .i64 sh.e, .int .i64 sh.f] 23)) (fun _ _ _ => 0)
 case atStart => exact ⟨0, Nat.zero_le _, rfl, rfl, rfl⟩
 case round =>
  obtain ⟨k, hk, rfl, rfl, rfl⟩ := hrel
  by_cases hlt : k < P.nh
  ·have hkn : (k : Int) < (P.nh : Int) := by omega
   go_wp2_with fail
   go_ret
   exact ⟨(Below.refl _ w).alloc (Nat.le_refl _) _, rfl⟩
  ·have hkn : ¬ (k : Int) < (P.nh : Int) := by omega
   go_wp2_with fail
   go_ret
   exact ⟨(Below.refl _ w).alloc (Nat.le_refl _) _, rfl⟩
end L17
end
section
namespace L17
def WrongB (K : Kd) (w : World) (P : Par) (most : Int) (e : Ending) (w' : World) : Prop :=
 Below w.heap.size w w' ∧ ((Fine P most ∧ AllOk K P ∧ e = .returned (.int .i64 0)) ∨ ∃ er, ErrOf K P most er ∧ e = .returned (.int .i64 er))
variable {K : Kd} {rep : List Value → K.σ → Prop} {sh : Shp} {w : World} {ao aoh aos : Option Addr} {cap caph caps : Nat} {P : Par} {most : Int}
theorem wrong_all (RK : RKind K rep sh 39 27) (hjw : ∀ h, h < P.nh → ∀ j, j < P.jn h → (P.jb h j).wf) (hn : P.n ≤ 4096) (SH : SeesH w w.heap.size aoh P.nh P.jn P.jb) (hn63 : P.nh ≤ 9223372036854775807) :
  Calls Tryz.prog 36 #[sh.val, .slice aoh P.nh caph, .slice aos P.ns caps, .int .i64 most] w (WrongB K w P most) := by
 by_cases h2 : LongHands P.nh P.jn ∨ 65536 < P.ns ∨ 65536 < most
 ·exact (wrong_fits 1 (by decide) (fun w' hb => fits_long (SH.below hb (Nat.le_refl _)) hn63 most h2)).mono fun e w' ⟨hb, he⟩ => ⟨hb, .inr ⟨1, .inr (.inl ⟨hn, h2, rfl⟩), he⟩⟩
 ·have hl : ¬ LongHands P.nh P.jn := fun h => h2 (.inl h)
  have hs : P.ns ≤ 65536 := by rcases Nat.lt_or_ge 65536 P.ns with l | l; exact absurd (.inr (.inl l)) h2; exact l
  have hm : most ≤ 65536 := by rcases Int.lt_or_le 65536 most with l | l; exact absurd (.inr (.inr l)) h2; exact l
  by_cases h3 : most < 0
  ·exact (wrong_fits 2 (by decide) (fun w' hb => fits_fine (SH.below hb (Nat.le_refl _)) hl hs most hm 2 (.inr ⟨h3, rfl⟩))).mono fun e w' ⟨hb, he⟩ => ⟨hb, .inr ⟨2, .inr (.inr (.inl ⟨hn, hl, hs, h3, rfl⟩)), he⟩⟩
  ·have hF : Fine P most := ⟨hn, hl, hs, by omega, hm⟩
   refine (wrong_fine RK hjw SH hl hs (by omega) hm).mono fun e w' ⟨hb, hc⟩ => ⟨hb, ?_⟩
   rcases hc with ⟨hok, he⟩ | ⟨er, hfe, he⟩
   ·exact .inl ⟨hF, hok, he⟩
   ·exact .inr ⟨er, .inr (.inr (.inr ⟨hF, hfe⟩)), he⟩
theorem ran_err (RK : RKind K rep sh 39 27) (hjw : ∀ h, h < P.nh → ∀ j, j < P.jn h → (P.jb h j).wf) (hn : P.n ≤ 4096) (SH : SeesH w w.heap.size aoh P.nh P.jn P.jb) (hn63 : P.nh ≤ 9223372036854775807) {er : Int} (he : ErrOf K P most er) :
  Calls Tryz.prog 20 #[sh.val, .slice ao P.n cap, .slice aoh P.nh caph, .slice aos P.ns caps, .int .i64 most] w fun e w' => e = .returned (errVal er) ∧ Below w.heap.size w w' := by
 have her' : ¬ er = 0 := he.ne
 obtain ⟨W2, hW2⟩ : ∃ W2, (w.alloc (.cells #[.int .i64 sh.a, .int .i64 sh.b, .int .i64 sh.c, .int .i64 sh.d, .int .i64 sh.e, .int .i64 sh.f] 23)).alloc (.cells #[.slice none 0 0, .slice none 0 0, .bool false] 32) = W2 := ⟨_, rfl⟩
 have b2 : Below w.heap.size w W2 := by rw [← hW2]; exact ((Below.refl _ w).alloc (Nat.le_refl _) _).alloc (by simp) _
 have sz2 : W2.heap.size = w.heap.size + 2 := by rw [← hW2]; simp
 have R1 : W2.rowIs w.heap.size 23 6 (lrow [Value.int .i64 sh.a, .int .i64 sh.b, .int .i64 sh.c, .int .i64 sh.d, .int .i64 sh.e, .int .i64 sh.f]) := by rw [← hW2]; exact (rowL_alloc w [Value.int .i64 sh.a, .int .i64 sh.b, .int .i64 sh.c, .int .i64 sh.d, .int .i64 sh.e, .int .i64 sh.f] _ rfl).alloc _
 have R2 := hide (show W2.rowIs (w.heap.size + 1) 32 3 (lrow [.slice none 0 0, .slice none 0 0, .bool false]) from by rw [← hW2]; have := rowL_alloc (w.alloc (.cells #[.int .i64 sh.a, .int .i64 sh.b, .int .i64 sh.c, .int .i64 sh.d, .int .i64 sh.e, .int .i64 sh.f] 23)) [.slice none 0 0, .slice none 0 0, .bool false] 32 (n := 3) rfl; rwa [World.size_alloc] at this)
 have c0 : W2.cell? ⟨w.heap.size, 0, none⟩ = some (.int .i64 sh.a) := R1.cell (i := 0) (by omega)
 have c1 : W2.cell? ⟨w.heap.size, 1, none⟩ = some (.int .i64 sh.b) := R1.cell (i := 1) (by omega)
 have c2 : W2.cell? ⟨w.heap.size, 2, none⟩ = some (.int .i64 sh.c) := R1.cell (i := 2) (by omega)
 have c3 : W2.cell? ⟨w.heap.size, 3, none⟩ = some (.int .i64 sh.d) := R1.cell (i := 3) (by omega)
 have c4 : W2.cell? ⟨w.heap.size, 4, none⟩ = some (.int .i64 sh.e) := R1.cell (i := 4) (by omega)
 have c5 : W2.cell? ⟨w.heap.size, 5, none⟩ = some (.int .i64 sh.f) := R1.cell (i := 5) (by omega)
 have WR := hide (wrong_all RK hjw (caph := caph) (aos := aos) (caps := caps) (most := most) hn (w := W2) (fun i hi => by
  obtain ⟨b, off, ao', cap, e, hb, hc, hj⟩ := SH.below b2 (Nat.le_refl _) i hi
  exact ⟨b, off, ao', cap, e, by omega, hc, fun q hq => by obtain ⟨b', off', e', hb', hc'⟩ := hj q hq; exact ⟨b', off', e', by omega, hc'⟩⟩) hn63)
 have HE := hide he
 have BW := hide b2
 clear SH RK hjw R1 he b2
 simp only [Shp.val] at WR ⊢
 unfold errVal
 go_enter Tryz.func20, Tryz.ntmps20
 go_wp2_with (go_at_call 36; refine WR.out.mono ?_; rintro e w' ⟨hb, hc⟩; obtain rfl : e = .returned (.int .i64 er) := (by rcases hc with ⟨h1, h2, _⟩ | ⟨er', h, rfl⟩; exact absurd ⟨h1, h2⟩ HE.out.not; rw [h.one HE.out]); have HB := hide hb; have sz3 := hb.size; have rT := R2.out.of_block (hb.block _ (by omega)); have z0 : w'.cell? ⟨w.heap.size + 1, 0, none⟩ = some (.slice none 0 0) := rT.cell (i := 0) (by omega); have z1 : w'.cell? ⟨w.heap.size + 1, 1, none⟩ = some (.slice none 0 0) := rT.cell (i := 1) (by omega); have z2 : w'.cell? ⟨w.heap.size + 1, 2, none⟩ = some (.bool false) := rT.cell (i := 2) (by omega); have y0 := rT.frozen 0; have y1 := rT.frozen 1; have y2 := rT.frozen 2; clear hb hc rT)
 go_light
 refine bodyPost_ret (v := errVal er) ?_ rfl ⟨rfl, (((BW.out.trans (HB.out.mono (by omega))).setCell (by simp) _).setCell (by simp) _).setCell (by simp) _⟩
 simp [results, Tryz.results20, go_sem, errVal, *]
end L17
end
end Go.Proofs.YtmikhglnomgbfaaGreat
