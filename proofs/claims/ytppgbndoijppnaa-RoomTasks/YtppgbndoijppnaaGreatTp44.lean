/-
  Lemmas: RAInv, RKind, RoomRK, RoomB, RoomD.
-/
import Derived.Test.YtppgbndoijppnaaGreatTp21
import Derived.Test.YtppgbndoijppnaaGreatTp12
import Derived.Deep.CutRange
import Derived.Test.YtppgbndoijppnaaGreatTp33
import Derived.Test.YtppgbndoijppnaaGreatTp34
import Derived.Test.YtppgbndoijppnaaGreatTp35
import Derived.Test.YtppgbndoijppnaaGreatTp37
import Derived.Test.YtppgbndoijppnaaGreatTp39
import Derived.Test.YtppgbndoijppnaaGreatTp41
import Derived.Test.YtppgbndoijppnaaGreatTp42
import Derived.Test.YtppgbndoijppnaaGreatTp43
import Derived.Test.YtppgbndoijppnaaGreatTp38
import Derived.Test.YtppgbndoijppnaaGreatTp26
namespace Go.Proofs.YtppgbndoijppnaaGreat
set_option maxHeartbeats 8000000
open Go.RowKit
set_option linter.unusedVariables false
set_option linter.unusedSimpArgs false
set_option linter.unnecessarySimpa false
set_option maxRecDepth 20000
section
open Beg
def RTold (K : Kd) (rep : List Value → K.σ → Prop) (P : Par) (st : St K) (base : Nat) (v : Value) (w' : World) : Prop :=
 ∃ blk c un capw sv, v = .tuple #[.agg #[sv, .slice (some ⟨blk .words, 0, none⟩) P.n capw, .bool (decide (cnt (st.going P) P.nh = 0))], sl (blk .answers) P.nh, .int .i64 0] ∧ Has w' base blk c ∧ RGood K rep P blk c st un capw sv
def rvL (sh : Shp) (P : Par) (blk : Rl → Nat) (capw : Nat) (vh sv : Value) (la : Int) : List Value := runCells sh (.slice (some ⟨blk .words, 0, none⟩) P.n capw) vh (sl (blk .tasks) P.nh) (sl (blk .going) P.nh) (sl (blk .run) P.nh) (sl (blk .mem) P.nh) sv (sl (blk .answers) P.nh) la
structure AInv (sh : Shp) (K : Kd) (rep : List Value → K.σ → Prop) (w : World) (P : Par) (f : Nat → Int) (vh : Value) (bR capw j : Nat) (wr : World) (blk : Rl → Nat) (c : Rl → Option Row) (un : Nat → Bool) (sv : Value) : Prop where
 has : Has wr w.heap.size blk c
 good : RGood K rep P blk c (runSt P (st0 K P f) j) un capw sv
 k : (runSt P (st0 K P f) j).k = j
 ty : ∀ r x, c r = some x → x.t ≠ 115 ∧ x.t ≠ 32 ∧ x.t ≠ 23
 rrow : wr.rowIs bR 115 15 (lrow (rvL sh P blk capw vh sv (runSt P (st0 K P f) j).last))
 trow : wr.rowIs w.heap.size 32 3 (lrow [.slice none 0 0, .slice none 0 0, .bool false])
 bel : Below w.heap.size w wr
 ge : w.heap.size ≤ bR
theorem AInv.below {sh : Shp} {K : Kd} {rep : List Value → K.σ → Prop} {w : World} {P : Par} {f : Nat → Int} {vh : Value} {bR capw j : Nat} {wr w' : World} {blk : Rl → Nat} {c : Rl → Option Row} {un : Nat → Bool} {sv : Value} (I : AInv sh K rep w P f vh bR capw j wr blk c un sv) (hb : Below wr.heap.size wr w') : AInv sh K rep w P f vh bR capw j w' blk c un sv :=
 ⟨I.has.below hb, I.good, I.k, I.ty, I.rrow.of_block (hb.block _ I.rrow.lt), I.trow.of_block (hb.block _ I.trow.lt), I.bel.trans (hb.mono I.bel.size), I.ge⟩
end
section
structure RKind (K : Kd) (rep : List Value → K.σ → Prop) (sh : Shp) (fst fsp : FuncId) : Prop where
 start : ∀ (k : Int) (j : Jb), 0 ≤ k → k < 8 → j.wf → ∃ cs, IsTk cs ∧ (K.err k j = 0 → rep cs (K.init k j)) ∧ ∀ w : World, Calls Tryz.prog fst #[sh.val, .int .i64 k, j.val, kept0] w fun e w' => e = .returned (.tuple #[.agg cs.toArray, .int .i64 (K.err k j)]) ∧ Below w.heap.size w w'
 step : ∀ (cs : List Value) (s : K.σ), IsTk cs → rep cs s → ∀ (n : Nat) (f : Nat → Int), (∀ i, i < n → 0 ≤ f i ∧ f i ≤ 18446744073709551615) → ∃ cs', IsTk cs' ∧ (¬ K.ends s (stepOf n f (K.req s)) = true → rep cs' (K.next s (stepOf n f (K.req s)))) ∧
  (K.ends s (stepOf n f (K.req s)) = true → cs'[22]? = some (.bool (K.tell (K.next s (stepOf n f (K.req s)))).ok) ∧ cs'[23]? = some (.int .u64 (K.tell (K.next s (stepOf n f (K.req s)))).val)) ∧ (∀ q, q < 4 → cs'[24 + q]? = some (.int .u64 0)) ∧
  ∀ (w : World) (g cap : Nat), IsRow w g n cap f → Calls Tryz.prog fsp #[.agg cs.toArray, .slice (some ⟨g, 0, none⟩) n cap] w fun e w' => e = .returned (.tuple #[.agg cs'.toArray, (stepOf n f (K.req s)).val, .bool (K.ends s (stepOf n f (K.req s)))]) ∧ IsRow w' g n cap (wordsOf n f (K.req s)) ∧ w.grownBy w' (some g)
end
section
namespace Rom
open Hp
def bfin (j : Jb) : Int := if fin j = true then 1 else 0
def u64 (x : Int) : Prop := 0 ≤ x ∧ x ≤ 18446744073709551615
def rTk (sh : Shp) (s : RmS) (cs : List Value) : Prop :=
 if s.j.kind = 1 then ∃ r0 r1 r2 r3, cs = tk sh s.hand ⟨1, 0, bfin s.j, col s.j, 0⟩ (s.st + 1) ⟨r0, r1, r2, r3, 0, 0, 0, 0⟩ ⟨false, 0⟩ ∧ u64 r0 ∧ (0 ≤ r1 ∧ r1 < 4294967296) ∧ u64 r2 ∧ (0 ≤ r3 ∧ r3 ≤ 4294967295) ∧ (¬ s.st = 0 → r0 = s.g ∧ r1 = idx s.g) ∧ (s.st = 2 → idx r2 = s.xb) ∧ (s.st = 4 ∨ s.st = 5 → r3 = s.gn)
 else ∃ r0 r1 r2, cs = tk sh s.hand ⟨2, s.j.a, 0, 0, 0⟩ (s.st + 1) ⟨r0, r1, r2, 0, 0, 0, 0, 0⟩ ⟨false, 0⟩ ∧ u64 r2 ∧ (s.st = 0 → r0 = s.sl) ∧ (s.st = 2 → r1 = s.gn) ∧ (s.st = 4 ∨ s.st = 5 → r2 = s.g)
def repR (sh : Shp) : List Value → RmS → Prop := fun cs s => Wf sh s ∧ s.told = ⟨false, 0⟩ ∧ rTk sh s cs
theorem z64 : u64 0 := by unfold u64; omega
theorem rep_make {sh : Shp} (k : Int) {j : Jb} (hw : j.wf) (hk : j.kind = 1) : repR sh (tk sh k ⟨1, 0, bfin j, col j, 0⟩ 1 .zero ⟨false, 0⟩) (rinit sh k j) := by
 refine ⟨wf_init sh k hw (fun h => absurd hk h), rfl, ?_⟩
 unfold rTk
 have h' : (rinit sh k j).j.kind = 1 := hk
 have h0 : (rinit sh k j).st = 0 := by simp [rinit, hk]
 rw [if_pos h', h0]
 exact ⟨0, 0, 0, 0, rfl, z64, by omega, z64, by omega, fun h => absurd rfl h, fun h => absurd h (by decide), fun h => absurd h (by decide)⟩
theorem rep_give {sh : Shp} (k : Int) {j : Jb} (hw : j.wf) (hk : ¬ j.kind = 1) (ha : j.a ≤ 9223372036854775807) : repR sh (tk sh k ⟨2, j.a, 0, 0, 0⟩ (if slotIn sh j.a 0 then 1 else 2) .zero ⟨false, 0⟩) (rinit sh k j) := by
 refine ⟨wf_init sh k hw (fun _ => ha), rfl, ?_⟩
 unfold rTk
 have h' : ¬ (rinit sh k j).j.kind = 1 := hk
 rw [if_neg h']
 by_cases hs : slotIn sh j.a 0
 ·have h0 : (rinit sh k j).st = 0 := by simp [rinit, hk, hs]
  rw [h0, if_pos hs]
  exact ⟨0, 0, 0, rfl, z64, fun _ => rfl, fun h => absurd h (by decide), fun h => absurd h (by decide)⟩
 ·have h0 : (rinit sh k j).st = 1 := by simp [rinit, hk, hs]
  rw [h0, if_neg hs]
  exact ⟨0, 0, 0, rfl, z64, fun h => absurd h (by decide), fun h => absurd h (by decide), fun h => absurd h (by decide)⟩
theorem tk_kept (sh : Shp) (hand : Int) (j : Jb) (st : Int) (r : Rg) (a : Ans) (q : Nat) (hq : q < 4) : (tk sh hand j st r a)[24 + q]? = some (.int .u64 0) := by
 match q, hq with
 | 0, _ | 1, _ | 2, _ | 3, _ => rfl
theorem slot_next {sh : Shp} {a sl : Int} (h : slotIn sh a sl) : slotIn sh a (sl + 1) ↔ sl + 1 < sh.b := by
 obtain ⟨h1, h2, h3⟩ := h
 unfold slotIn
 constructor
 ·intro h; exact h.2.2
 ·intro h; exact ⟨h1, by omega, h⟩
theorem use_eq {j : Jb} (gn : Int) : useW j gn = 1 + col j * 2 + bfin j * 4 + gn * 4294967296 := by
 unfold useW packW ownB bfin
 by_cases hc : j.c = 0
 ·cases hf : fin j <;> simp [col, hc, bit] <;> omega
 ·cases hf : fin j <;> simp [col, hc, bit] <;> omega
theorem rstep_any {any : Bool} {sh : Shp} (h5 : Shape.R5 sh.a sh.b sh.c sh.d sh.e) (cs : List Value) (s : RmS) (hcs : IsTk cs) (hrep : repR sh cs s) (n : Nat) (f : Nat → Int) (hf : ∀ i, i < n → 0 ≤ f i ∧ f i ≤ 18446744073709551615) :
  ∃ cs', IsTk cs' ∧ (¬ rends sh s (stepOf n f (rreq sh s)) = true → repR sh cs' (rnext sh s (stepOf n f (rreq sh s)))) ∧
  (rends sh s (stepOf n f (rreq sh s)) = true → cs'[22]? = some (.bool (rnext sh s (stepOf n f (rreq sh s))).told.ok) ∧ cs'[23]? = some (.int .u64 (rnext sh s (stepOf n f (rreq sh s))).told.val)) ∧ (∀ q, q < 4 → cs'[24 + q]? = some (.int .u64 0)) ∧
  ∀ (w : World) (g cap : Nat), IsRow w g n cap f → Calls Tryz.prog 30 #[.agg cs.toArray, .slice (some ⟨g, 0, none⟩) n cap] w fun e w' => e = .returned (.tuple #[.agg cs'.toArray, (stepOf n f (rreq sh s)).val, .bool (rends sh s (stepOf n f (rreq sh s)))]) ∧ IsRow w' g n cap (wordsOf n f (rreq sh s)) ∧ w.grownBy w' (some g) := by
 obtain ⟨H, htold, hrep⟩ := hrep
 have hxh := had_bounds hf (rreq sh s)
 obtain ⟨x, hx⟩ : ∃ x, stepOf n f (rreq sh s) = x := ⟨_, rfl⟩
 obtain ⟨f', hf'⟩ : ∃ f', wordsOf n f (rreq sh s) = f' := ⟨_, rfl⟩
 rw [hx] at hxh
 rw [hx, hf']
 have Hn : ¬ rends sh s x = true → Wf sh (rnext sh s x) := fun h => rnext_wf h5.2.1 H hxh h
 obtain ⟨hst, hh, hg, hgn, hth, hxb, hsl, hsl2, hab⟩ := H
 obtain ⟨hand, j, st, gg, xb, gn, sl, told⟩ := s
 simp only at hst hh hg hgn hth hxb hsl hsl2 hab htold hx hf'
 subst htold
 have hcol : col j = 0 ∨ col j = 1 := by unfold col; split <;> simp
 have hbf : bfin j = 0 ∨ bfin j = 1 := by unfold bfin; split <;> simp
 have hix := idx_lo x.had
 have hix' := idx_hi x.had
 have hgd : 0 ≤ x.had / 4294967296 ∧ x.had / 4294967296 ≤ 4294967295 := by omega
 unfold rTk at hrep
 simp only at hrep
 rcases hst with ⟨hk, hst⟩ | ⟨hk, hst⟩
 ·rw [if_pos hk] at hrep
  obtain ⟨r0, r1, r2, r3, rfl, b0, b1, b2, b3, e0, e2, e3⟩ := hrep
  rcases hst with rfl | rfl | rfl | rfl | rfl | rfl
  ·have er : rreq sh ⟨hand, j, 0, gg, xb, gn, sl, ⟨false, 0⟩⟩ = ⟨hand, 1, 1, 0, 0, true⟩ := by simp [rreq, hk]
   rw [er] at hx hf'
   by_cases ht : there sh (idx x.had)
   ·have e1' : rends sh ⟨hand, j, 0, gg, xb, gn, sl, ⟨false, 0⟩⟩ x = false := by simp [rends, hk, ht]
    rw [e1'] at Hn ⊢
    have e2' : rnext sh ⟨hand, j, 0, gg, xb, gn, sl, ⟨false, 0⟩⟩ x = ⟨hand, j, 1, x.had, xb, gn, sl, ⟨false, 0⟩⟩ := by simp [rnext, hk, ht]
    rw [e2'] at Hn ⊢
    rw [show ((0 : Int) + 1) = 1 from by decide]
    refine ⟨_, tk_is sh hand ⟨1, 0, bfin j, col j, 0⟩ 2 ⟨x.had, idx x.had, r2, r3, 0, 0, 0, 0⟩ ⟨false, 0⟩, fun h => ⟨Hn h, rfl, ?_⟩, fun h => absurd h (by decide), fun q hq => tk_kept _ _ _ _ _ _ q hq, fun w g cap hr => rstepM (tk_is _ _ _ _ _ _) (tk_is _ _ _ _ _ _) rfl hr (fun w1 r1' => rm0_yes (r0 := r0) (r2 := r2) (r3 := r3) r1' h5 b1 hxh ht hx hf')⟩
    unfold rTk
    rw [if_pos (show j.kind = 1 from hk)]
    exact ⟨x.had, idx x.had, r2, r3, rfl, hxh, ⟨hix, hix'⟩, b2, b3, fun _ => ⟨rfl, rfl⟩, fun h => absurd h (by simp), fun h => absurd h (by simp)⟩
   ·have e1' : rends sh ⟨hand, j, 0, gg, xb, gn, sl, ⟨false, 0⟩⟩ x = true := by simp [rends, hk, ht]
    rw [e1'] at Hn ⊢
    have e2' : rnext sh ⟨hand, j, 0, gg, xb, gn, sl, ⟨false, 0⟩⟩ x = ⟨hand, j, 9, x.had, xb, gn, sl, ⟨false, 0⟩⟩ := by simp [rnext, hk, ht]
    rw [e2']
    rw [show ((0 : Int) + 1) = 1 from by decide]
    exact ⟨_, tk_is sh hand ⟨1, 0, bfin j, col j, 0⟩ 1 ⟨x.had, idx x.had, r2, r3, 0, 0, 0, 0⟩ ⟨false, 0⟩, fun h => absurd rfl h, fun h => ⟨rfl, rfl⟩, fun q hq => tk_kept _ _ _ _ _ _ q hq, fun w g cap hr => rstepM (tk_is _ _ _ _ _ _) (tk_is _ _ _ _ _ _) rfl hr (fun w1 r1' => rm0_no (r0 := r0) (r2 := r2) (r3 := r3) r1' h5 b1 hxh ht hx hf')⟩
  ·have er : rreq sh ⟨hand, j, 1, gg, xb, gn, sl, ⟨false, 0⟩⟩ = ⟨hand, 1, linkAt sh (idx gg), 0, 0, true⟩ := by simp [rreq, hk]
   obtain ⟨rfl, rfl⟩ := e0 (by decide)
   rw [er] at hx hf'
   have e1' : rends sh ⟨hand, j, 1, r0, xb, gn, sl, ⟨false, 0⟩⟩ x = false := by simp [rends, hk]
   rw [e1'] at Hn ⊢
   have e2' : rnext sh ⟨hand, j, 1, r0, xb, gn, sl, ⟨false, 0⟩⟩ x = ⟨hand, j, 2, r0, idx x.had, gn, sl, ⟨false, 0⟩⟩ := by simp [rnext, hk]
   rw [e2'] at Hn ⊢
   rw [show ((1 : Int) + 1) = 2 from by decide]
   refine ⟨_, tk_is sh hand ⟨1, 0, bfin j, col j, 0⟩ 3 ⟨r0, idx r0, x.had, r3, 0, 0, 0, 0⟩ ⟨false, 0⟩, fun h => ⟨Hn h, rfl, ?_⟩, fun h => absurd h (by decide), fun q hq => tk_kept _ _ _ _ _ _ q hq, fun w g cap hr => rstepM (tk_is _ _ _ _ _ _) (tk_is _ _ _ _ _ _) rfl hr (fun w1 r1' => rm1_any (r0 := r0) (r2 := r2) (r3 := r3) r1' h5 b1 hx hf')⟩
   unfold rTk
   rw [if_pos (show j.kind = 1 from hk)]
   exact ⟨r0, idx r0, x.had, r3, rfl, b0, b1, hxh, b3, fun _ => ⟨rfl, rfl⟩, fun _ => rfl, fun h => absurd h (by simp)⟩
  ·have er : rreq sh ⟨hand, j, 2, gg, xb, gn, sl, ⟨false, 0⟩⟩ = ⟨hand, 5, 1, gg, bmp gg xb, true⟩ := by simp [rreq, hk]
   obtain ⟨rfl, rfl⟩ := e0 (by decide)
   have ex := e2 rfl
   subst ex
   rw [er] at hx hf'
   cases hok : x.ok with
   | true =>
    have e1' : rends sh ⟨hand, j, 2, r0, (idx r2), gn, sl, ⟨false, 0⟩⟩ x = false := by simp [rends, hk, hok]
    rw [e1'] at Hn ⊢
    have e2' : rnext sh ⟨hand, j, 2, r0, (idx r2), gn, sl, ⟨false, 0⟩⟩ x = ⟨hand, j, 3, r0, idx r2, gn, sl, ⟨false, 0⟩⟩ := by simp [rnext, hk, hok]
    rw [e2'] at Hn ⊢
    rw [show ((2 : Int) + 1) = 3 from by decide]
    refine ⟨_, tk_is sh hand ⟨1, 0, bfin j, col j, 0⟩ 4 ⟨r0, idx r0, r2, r3, 0, 0, 0, 0⟩ ⟨false, 0⟩, fun h => ⟨Hn h, rfl, ?_⟩, fun h => absurd h (by decide), fun q hq => tk_kept _ _ _ _ _ _ q hq, fun w g cap hr => rstepM (tk_is _ _ _ _ _ _) (tk_is _ _ _ _ _ _) rfl hr (fun w1 r1' => (by have h := rm2_any (bj := bfin j) (cj := col j) (r3 := r3) r1' h5 b1 b0 b2 hx hf'; rw [if_pos hok] at h; exact h))⟩
    unfold rTk
    rw [if_pos (show j.kind = 1 from hk)]
    exact ⟨r0, idx r0, r2, r3, rfl, b0, b1, b2, b3, fun _ => ⟨rfl, rfl⟩, fun h => absurd h (by simp), fun h => absurd h (by simp)⟩
   | false =>
    have e1' : rends sh ⟨hand, j, 2, r0, (idx r2), gn, sl, ⟨false, 0⟩⟩ x = false := by simp [rends, hk, hok]
    rw [e1'] at Hn ⊢
    have e2' : rnext sh ⟨hand, j, 2, r0, (idx r2), gn, sl, ⟨false, 0⟩⟩ x = ⟨hand, j, 0, r0, idx r2, gn, sl, ⟨false, 0⟩⟩ := by simp [rnext, hk, hok]
    rw [e2'] at Hn ⊢
    rw [show ((2 : Int) + 1) = 3 from by decide]
    refine ⟨_, tk_is sh hand ⟨1, 0, bfin j, col j, 0⟩ 1 ⟨r0, idx r0, r2, r3, 0, 0, 0, 0⟩ ⟨false, 0⟩, fun h => ⟨Hn h, rfl, ?_⟩, fun h => absurd h (by decide), fun q hq => tk_kept _ _ _ _ _ _ q hq, fun w g cap hr => rstepM (tk_is _ _ _ _ _ _) (tk_is _ _ _ _ _ _) rfl hr (fun w1 r1' => (by have h := rm2_any (bj := bfin j) (cj := col j) (r3 := r3) r1' h5 b1 b0 b2 hx hf'; rw [if_neg (by rw [hok]; decide)] at h; exact h))⟩
    unfold rTk
    rw [if_pos (show j.kind = 1 from hk)]
    exact ⟨r0, idx r0, r2, r3, rfl, b0, b1, b2, b3, fun h => absurd rfl h, fun h => absurd h (by simp), fun h => absurd h (by simp)⟩
  ·have er : rreq sh ⟨hand, j, 3, gg, xb, gn, sl, ⟨false, 0⟩⟩ = ⟨hand, 1, headAt sh (idx gg), 0, 0, true⟩ := by simp [rreq, hk]
   obtain ⟨rfl, rfl⟩ := e0 (by decide)
   rw [er] at hx hf'
   have e1' : rends sh ⟨hand, j, 3, r0, xb, gn, sl, ⟨false, 0⟩⟩ x = false := by simp [rends, hk]
   rw [e1'] at Hn ⊢
   have e2' : rnext sh ⟨hand, j, 3, r0, xb, gn, sl, ⟨false, 0⟩⟩ x = ⟨hand, j, 4, r0, xb, x.had / 4294967296, sl, ⟨false, 0⟩⟩ := by simp [rnext, hk]
   rw [e2'] at Hn ⊢
   rw [show ((3 : Int) + 1) = 4 from by decide]
   refine ⟨_, tk_is sh hand ⟨1, 0, bfin j, col j, 0⟩ 5 ⟨r0, idx r0, r2, x.had / 4294967296, 0, 0, 0, 0⟩ ⟨false, 0⟩, fun h => ⟨Hn h, rfl, ?_⟩, fun h => absurd h (by decide), fun q hq => tk_kept _ _ _ _ _ _ q hq, fun w g cap hr => rstepM (tk_is _ _ _ _ _ _) (tk_is _ _ _ _ _ _) rfl hr (fun w1 r1' => rm3_any (r0 := r0) (r2 := r2) (r3 := r3) r1' h5 b1 hxh hx hf')⟩
   unfold rTk
   rw [if_pos (show j.kind = 1 from hk)]
   exact ⟨r0, idx r0, r2, x.had / 4294967296, rfl, b0, b1, b2, hgd, fun _ => ⟨rfl, rfl⟩, fun h => absurd h (by simp), fun _ => rfl⟩
  ·have er : rreq sh ⟨hand, j, 4, gg, xb, gn, sl, ⟨false, 0⟩⟩ = ⟨hand, 2, headAt sh (idx gg), 0, useW j gn, true⟩ := by simp [rreq, hk]
   obtain ⟨rfl, rfl⟩ := e0 (by decide)
   have ex := e3 (.inl rfl)
   subst ex
   rw [er] at hx hf'
   have e1' : rends sh ⟨hand, j, 4, r0, xb, r3, sl, ⟨false, 0⟩⟩ x = false := by simp [rends, hk]
   rw [e1'] at Hn ⊢
   have e2' : rnext sh ⟨hand, j, 4, r0, xb, r3, sl, ⟨false, 0⟩⟩ x = ⟨hand, j, 5, r0, xb, r3, sl, ⟨false, 0⟩⟩ := by simp [rnext, hk]
   rw [e2'] at Hn ⊢
   rw [show ((4 : Int) + 1) = 5 from by decide]
   refine ⟨_, tk_is sh hand ⟨1, 0, bfin j, col j, 0⟩ 6 ⟨r0, idx r0, r2, r3, 0, 0, 0, 0⟩ ⟨false, 0⟩, fun h => ⟨Hn h, rfl, ?_⟩, fun h => absurd h (by decide), fun q hq => tk_kept _ _ _ _ _ _ q hq, fun w g cap hr => rstepM (tk_is _ _ _ _ _ _) (tk_is _ _ _ _ _ _) rfl hr (fun w1 r1' => rm4_any (r0 := r0) (r2 := r2) (r3 := r3) r1' h5 b1 hbf hcol b3 (use_eq r3) hx hf')⟩
   unfold rTk
   rw [if_pos (show j.kind = 1 from hk)]
   exact ⟨r0, idx r0, r2, r3, rfl, b0, b1, b2, b3, fun _ => ⟨rfl, rfl⟩, fun h => absurd h (by simp), fun _ => rfl⟩
  ·have er : rreq sh ⟨hand, j, 5, gg, xb, gn, sl, ⟨false, 0⟩⟩ = ⟨hand, 4, 4, 0, 1, true⟩ := by simp [rreq, hk]
   obtain ⟨rfl, rfl⟩ := e0 (by decide)
   have ex := e3 (.inr rfl)
   subst ex
   rw [er] at hx hf'
   have e1' : rends sh ⟨hand, j, 5, r0, xb, r3, sl, ⟨false, 0⟩⟩ x = true := by simp [rends, hk]
   rw [e1'] at Hn ⊢
   have e2' : rnext sh ⟨hand, j, 5, r0, xb, r3, sl, ⟨false, 0⟩⟩ x = ⟨hand, j, 9, r0, xb, r3, sl, ⟨true, hd (idx r0) r3⟩⟩ := by simp [rnext, hk]
   rw [e2']
   rw [show ((5 : Int) + 1) = 6 from by decide]
   exact ⟨_, tk_is sh hand ⟨1, 0, bfin j, col j, 0⟩ 6 ⟨r0, idx r0, r2, r3, 0, 0, 0, 0⟩ ⟨true, hd (idx r0) r3⟩, fun h => absurd rfl h, fun h => ⟨rfl, rfl⟩, fun q hq => tk_kept _ _ _ _ _ _ q hq, fun w g cap hr => rstepM (tk_is _ _ _ _ _ _) (tk_is _ _ _ _ _ _) rfl hr (fun w1 r1' => rm5_any (r0 := r0) (r2 := r2) (r3 := r3) r1' h5 b1 b3 hx hf')⟩
 ·rw [if_neg hk] at hrep
  obtain ⟨r0, r1, r2, rfl, b2, e0, e1, e2⟩ := hrep
  rcases hst with rfl | rfl | rfl | rfl | rfl | rfl | rfl
  ·have er : rreq sh ⟨hand, j, 0, gg, xb, gn, sl, ⟨false, 0⟩⟩ = ⟨hand, 2, slotAt sh j.a sl, 0, 0, true⟩ := by simp [rreq, hk]
   have ex := e0 rfl
   subst ex
   have hs := hsl hk rfl
   rw [er] at hx hf'
   by_cases ht : slotIn sh j.a (r0 + 1)
   ·have e1' : rends sh ⟨hand, j, 0, gg, xb, gn, r0, ⟨false, 0⟩⟩ x = false := by simp [rends, hk, ht]
    rw [e1'] at Hn ⊢
    have e2' : rnext sh ⟨hand, j, 0, gg, xb, gn, r0, ⟨false, 0⟩⟩ x = ⟨hand, j, 0, gg, xb, gn, r0 + 1, ⟨false, 0⟩⟩ := by simp [rnext, hk, ht]
    rw [e2'] at Hn ⊢
    rw [show ((0 : Int) + 1) = 1 from by decide]
    refine ⟨_, tk_is sh hand ⟨2, j.a, 0, 0, 0⟩ 1 ⟨r0 + 1, r1, r2, 0, 0, 0, 0, 0⟩ ⟨false, 0⟩, fun h => ⟨Hn h, rfl, ?_⟩, fun h => absurd h (by decide), fun q hq => tk_kept _ _ _ _ _ _ q hq, fun w g cap hr => rstepG (tk_is _ _ _ _ _ _) (tk_is _ _ _ _ _ _) rfl hr (fun w1 r1' => rg0_more (r0 := r0) (r1 := r1) (r2 := r2) r1' h5 hs ((slot_next hs).1 ht) hx hf')⟩
    unfold rTk
    rw [if_neg (show ¬ j.kind = 1 from hk)]
    exact ⟨r0 + 1, r1, r2, rfl, b2, fun _ => rfl, fun h => absurd h (by simp), fun h => absurd h (by simp)⟩
   ·have e1' : rends sh ⟨hand, j, 0, gg, xb, gn, r0, ⟨false, 0⟩⟩ x = false := by simp [rends, hk, ht]
    rw [e1'] at Hn ⊢
    have e2' : rnext sh ⟨hand, j, 0, gg, xb, gn, r0, ⟨false, 0⟩⟩ x = ⟨hand, j, 1, gg, xb, gn, r0 + 1, ⟨false, 0⟩⟩ := by simp [rnext, hk, ht]
    rw [e2'] at Hn ⊢
    rw [show ((0 : Int) + 1) = 1 from by decide]
    refine ⟨_, tk_is sh hand ⟨2, j.a, 0, 0, 0⟩ 2 ⟨r0 + 1, r1, r2, 0, 0, 0, 0, 0⟩ ⟨false, 0⟩, fun h => ⟨Hn h, rfl, ?_⟩, fun h => absurd h (by decide), fun q hq => tk_kept _ _ _ _ _ _ q hq, fun w g cap hr => rstepG (tk_is _ _ _ _ _ _) (tk_is _ _ _ _ _ _) rfl hr (fun w1 r1' => rg0_last (r0 := r0) (r1 := r1) (r2 := r2) r1' h5 hs (fun h => ht ((slot_next hs).2 h)) hx hf')⟩
    unfold rTk
    rw [if_neg (show ¬ j.kind = 1 from hk)]
    exact ⟨r0 + 1, r1, r2, rfl, b2, fun h => absurd h (by simp), fun h => absurd h (by simp), fun h => absurd h (by simp)⟩
  ·have er : rreq sh ⟨hand, j, 1, gg, xb, gn, sl, ⟨false, 0⟩⟩ = ⟨hand, 1, headAt sh j.a, 0, 0, true⟩ := by simp [rreq, hk]
   rw [er] at hx hf'
   have e1' : rends sh ⟨hand, j, 1, gg, xb, gn, sl, ⟨false, 0⟩⟩ x = false := by simp [rends, hk]
   rw [e1'] at Hn ⊢
   have e2' : rnext sh ⟨hand, j, 1, gg, xb, gn, sl, ⟨false, 0⟩⟩ x = ⟨hand, j, 2, gg, xb, x.had / 4294967296, sl, ⟨false, 0⟩⟩ := by simp [rnext, hk]
   rw [e2'] at Hn ⊢
   rw [show ((1 : Int) + 1) = 2 from by decide]
   refine ⟨_, tk_is sh hand ⟨2, j.a, 0, 0, 0⟩ 3 ⟨r0, x.had / 4294967296, r2, 0, 0, 0, 0, 0⟩ ⟨false, 0⟩, fun h => ⟨Hn h, rfl, ?_⟩, fun h => absurd h (by decide), fun q hq => tk_kept _ _ _ _ _ _ q hq, fun w g cap hr => rstepG (tk_is _ _ _ _ _ _) (tk_is _ _ _ _ _ _) rfl hr (fun w1 r1' => rg1_any (r0 := r0) (r1 := r1) (r2 := r2) r1' h5 hxh hx hf')⟩
   unfold rTk
   rw [if_neg (show ¬ j.kind = 1 from hk)]
   exact ⟨r0, x.had / 4294967296, r2, rfl, b2, fun h => absurd h (by simp), fun _ => rfl, fun h => absurd h (by simp)⟩
  ·have ex := e1 rfl
   subst ex
   by_cases hq : r1 = 4294967295
   ·have er : rreq sh ⟨hand, j, 2, gg, xb, r1, sl, ⟨false, 0⟩⟩ = ⟨hand, 2, headAt sh j.a, 0, hd 0 r1, true⟩ := by simp [rreq, hk, nxg, hq]
    rw [er] at hx hf'
    have e1' : rends sh ⟨hand, j, 2, gg, xb, r1, sl, ⟨false, 0⟩⟩ x = false := by simp [rends, hk, hq]
    rw [e1'] at Hn ⊢
    have e2' : rnext sh ⟨hand, j, 2, gg, xb, r1, sl, ⟨false, 0⟩⟩ x = ⟨hand, j, 6, gg, xb, r1, sl, ⟨false, 0⟩⟩ := by simp [rnext, hk, hq]
    rw [e2'] at Hn ⊢
    rw [show ((2 : Int) + 1) = 3 from by decide]
    refine ⟨_, tk_is sh hand ⟨2, j.a, 0, 0, 0⟩ 7 ⟨r0, r1, r2, 0, 0, 0, 0, 0⟩ ⟨false, 0⟩, fun h => ⟨Hn h, rfl, ?_⟩, fun h => absurd h (by decide), fun q hq => tk_kept _ _ _ _ _ _ q hq, fun w g cap hr => rstepG (tk_is _ _ _ _ _ _) (tk_is _ _ _ _ _ _) rfl hr (fun w1 r1' => rg2_last (r0 := r0) (r1 := r1) (r2 := r2) r1' h5 hgn (by simpa using hq) hx hf')⟩
    unfold rTk
    rw [if_neg (show ¬ j.kind = 1 from hk)]
    exact ⟨r0, r1, r2, rfl, b2, fun h => absurd h (by simp), fun h => absurd h (by simp), fun h => absurd h (by simp)⟩
   ·have er : rreq sh ⟨hand, j, 2, gg, xb, r1, sl, ⟨false, 0⟩⟩ = ⟨hand, 2, headAt sh j.a, 0, hd 0 (r1 + 1), true⟩ := by simp [rreq, hk, nxg, hq]
    rw [er] at hx hf'
    have e1' : rends sh ⟨hand, j, 2, gg, xb, r1, sl, ⟨false, 0⟩⟩ x = false := by simp [rends, hk, hq]
    rw [e1'] at Hn ⊢
    have e2' : rnext sh ⟨hand, j, 2, gg, xb, r1, sl, ⟨false, 0⟩⟩ x = ⟨hand, j, 3, gg, xb, r1, sl, ⟨false, 0⟩⟩ := by simp [rnext, hk, hq]
    rw [e2'] at Hn ⊢
    rw [show ((2 : Int) + 1) = 3 from by decide]
    refine ⟨_, tk_is sh hand ⟨2, j.a, 0, 0, 0⟩ 4 ⟨r0, r1, r2, 0, 0, 0, 0, 0⟩ ⟨false, 0⟩, fun h => ⟨Hn h, rfl, ?_⟩, fun h => absurd h (by decide), fun q hq => tk_kept _ _ _ _ _ _ q hq, fun w g cap hr => rstepG (tk_is _ _ _ _ _ _) (tk_is _ _ _ _ _ _) rfl hr (fun w1 r1' => rg2_next (r0 := r0) (r1 := r1) (r2 := r2) r1' h5 hgn (by simpa using hq) hx hf')⟩
    unfold rTk
    rw [if_neg (show ¬ j.kind = 1 from hk)]
    exact ⟨r0, r1, r2, rfl, b2, fun h => absurd h (by simp), fun h => absurd h (by simp), fun h => absurd h (by simp)⟩
  ·have er : rreq sh ⟨hand, j, 3, gg, xb, gn, sl, ⟨false, 0⟩⟩ = ⟨hand, 1, 1, 0, 0, true⟩ := by simp [rreq, hk]
   rw [er] at hx hf'
   have e1' : rends sh ⟨hand, j, 3, gg, xb, gn, sl, ⟨false, 0⟩⟩ x = false := by simp [rends, hk]
   rw [e1'] at Hn ⊢
   have e2' : rnext sh ⟨hand, j, 3, gg, xb, gn, sl, ⟨false, 0⟩⟩ x = ⟨hand, j, 4, x.had, xb, gn, sl, ⟨false, 0⟩⟩ := by simp [rnext, hk]
   rw [e2'] at Hn ⊢
   rw [show ((3 : Int) + 1) = 4 from by decide]
   refine ⟨_, tk_is sh hand ⟨2, j.a, 0, 0, 0⟩ 5 ⟨r0, r1, x.had, 0, 0, 0, 0, 0⟩ ⟨false, 0⟩, fun h => ⟨Hn h, rfl, ?_⟩, fun h => absurd h (by decide), fun q hq => tk_kept _ _ _ _ _ _ q hq, fun w g cap hr => rstepG (tk_is _ _ _ _ _ _) (tk_is _ _ _ _ _ _) rfl hr (fun w1 r1' => rg3_any (r0 := r0) (r1 := r1) (r2 := r2) r1' h5 hx hf')⟩
   unfold rTk
   rw [if_neg (show ¬ j.kind = 1 from hk)]
   exact ⟨r0, r1, x.had, rfl, hxh, fun h => absurd h (by simp), fun h => absurd h (by simp), fun _ => rfl⟩
  ·have er : rreq sh ⟨hand, j, 4, gg, xb, gn, sl, ⟨false, 0⟩⟩ = ⟨hand, 2, linkAt sh j.a, 0, idx gg, true⟩ := by simp [rreq, hk]
   have ex := e2 (.inl rfl)
   subst ex
   rw [er] at hx hf'
   have e1' : rends sh ⟨hand, j, 4, r2, xb, gn, sl, ⟨false, 0⟩⟩ x = false := by simp [rends, hk]
   rw [e1'] at Hn ⊢
   have e2' : rnext sh ⟨hand, j, 4, r2, xb, gn, sl, ⟨false, 0⟩⟩ x = ⟨hand, j, 5, r2, xb, gn, sl, ⟨false, 0⟩⟩ := by simp [rnext, hk]
   rw [e2'] at Hn ⊢
   rw [show ((4 : Int) + 1) = 5 from by decide]
   refine ⟨_, tk_is sh hand ⟨2, j.a, 0, 0, 0⟩ 6 ⟨r0, r1, r2, 0, 0, 0, 0, 0⟩ ⟨false, 0⟩, fun h => ⟨Hn h, rfl, ?_⟩, fun h => absurd h (by decide), fun q hq => tk_kept _ _ _ _ _ _ q hq, fun w g cap hr => rstepG (tk_is _ _ _ _ _ _) (tk_is _ _ _ _ _ _) rfl hr (fun w1 r1' => rg4_any (r0 := r0) (r1 := r1) (r2 := r2) r1' h5 b2 hx hf')⟩
   unfold rTk
   rw [if_neg (show ¬ j.kind = 1 from hk)]
   exact ⟨r0, r1, r2, rfl, b2, fun h => absurd h (by simp), fun h => absurd h (by simp), fun _ => rfl⟩
  ·have er : rreq sh ⟨hand, j, 5, gg, xb, gn, sl, ⟨false, 0⟩⟩ = ⟨hand, 5, 1, gg, bmp gg j.a, true⟩ := by simp [rreq, hk]
   have ex := e2 (.inr rfl)
   subst ex
   rw [er] at hx hf'
   cases hok : x.ok with
   | true =>
    have e1' : rends sh ⟨hand, j, 5, r2, xb, gn, sl, ⟨false, 0⟩⟩ x = false := by simp [rends, hk, hok]
    rw [e1'] at Hn ⊢
    have e2' : rnext sh ⟨hand, j, 5, r2, xb, gn, sl, ⟨false, 0⟩⟩ x = ⟨hand, j, 6, r2, xb, gn, sl, ⟨false, 0⟩⟩ := by simp [rnext, hk, hok]
    rw [e2'] at Hn ⊢
    rw [show ((5 : Int) + 1) = 6 from by decide]
    refine ⟨_, tk_is sh hand ⟨2, j.a, 0, 0, 0⟩ 7 ⟨r0, r1, r2, 0, 0, 0, 0, 0⟩ ⟨false, 0⟩, fun h => ⟨Hn h, rfl, ?_⟩, fun h => absurd h (by decide), fun q hq => tk_kept _ _ _ _ _ _ q hq, fun w g cap hr => rstepG (tk_is _ _ _ _ _ _) (tk_is _ _ _ _ _ _) rfl hr (fun w1 r1' => (by have h := rg5_any (r0 := r0) (r1 := r1) r1' h5 b2 hx hf'; rw [if_pos hok] at h; exact h))⟩
    unfold rTk
    rw [if_neg (show ¬ j.kind = 1 from hk)]
    exact ⟨r0, r1, r2, rfl, b2, fun h => absurd h (by simp), fun h => absurd h (by simp), fun h => absurd h (by simp)⟩
   | false =>
    have e1' : rends sh ⟨hand, j, 5, r2, xb, gn, sl, ⟨false, 0⟩⟩ x = false := by simp [rends, hk, hok]
    rw [e1'] at Hn ⊢
    have e2' : rnext sh ⟨hand, j, 5, r2, xb, gn, sl, ⟨false, 0⟩⟩ x = ⟨hand, j, 3, r2, xb, gn, sl, ⟨false, 0⟩⟩ := by simp [rnext, hk, hok]
    rw [e2'] at Hn ⊢
    rw [show ((5 : Int) + 1) = 6 from by decide]
    refine ⟨_, tk_is sh hand ⟨2, j.a, 0, 0, 0⟩ 4 ⟨r0, r1, r2, 0, 0, 0, 0, 0⟩ ⟨false, 0⟩, fun h => ⟨Hn h, rfl, ?_⟩, fun h => absurd h (by decide), fun q hq => tk_kept _ _ _ _ _ _ q hq, fun w g cap hr => rstepG (tk_is _ _ _ _ _ _) (tk_is _ _ _ _ _ _) rfl hr (fun w1 r1' => (by have h := rg5_any (r0 := r0) (r1 := r1) r1' h5 b2 hx hf'; rw [if_neg (by rw [hok]; decide)] at h; exact h))⟩
    unfold rTk
    rw [if_neg (show ¬ j.kind = 1 from hk)]
    exact ⟨r0, r1, r2, rfl, b2, fun h => absurd h (by simp), fun h => absurd h (by simp), fun h => absurd h (by simp)⟩
  ·have er : rreq sh ⟨hand, j, 6, gg, xb, gn, sl, ⟨false, 0⟩⟩ = ⟨hand, 4, 5, 0, 1, true⟩ := by simp [rreq, hk]
   rw [er] at hx hf'
   have e1' : rends sh ⟨hand, j, 6, gg, xb, gn, sl, ⟨false, 0⟩⟩ x = true := by simp [rends, hk]
   rw [e1'] at Hn ⊢
   have e2' : rnext sh ⟨hand, j, 6, gg, xb, gn, sl, ⟨false, 0⟩⟩ x = ⟨hand, j, 9, gg, xb, gn, sl, ⟨true, mx0 j.a⟩⟩ := by simp [rnext, hk]
   rw [e2']
   rw [show ((6 : Int) + 1) = 7 from by decide]
   exact ⟨_, tk_is sh hand ⟨2, j.a, 0, 0, 0⟩ 7 ⟨r0, r1, r2, 0, 0, 0, 0, 0⟩ ⟨true, mx0 j.a⟩, fun h => absurd rfl h, fun h => ⟨rfl, rfl⟩, fun q hq => tk_kept _ _ _ _ _ _ q hq, fun w g cap hr => rstepG (tk_is _ _ _ _ _ _) (tk_is _ _ _ _ _ _) rfl hr (fun w1 r1' => rg6_any (r0 := r0) (r1 := r1) (r2 := r2) r1' h5 (hab hk) hx hf')⟩
end Rom
end
section
namespace Rom
open Hp
theorem mlook_any {w : World} {b bm bw n : Nat} {f f' : Nat → Int} {x : Stp} {sh : Shp} {hand : Int} {fn v2 v3 : Value} {t : Ans} {fl : Bool} {c ix gn : Int} (h_ : w.rowIs b 99 16 (mC sh hand fn v2 v3 t fl c ix gn)) (hm : IsMem w bm bw n f) (h1 : b ≠ bm) (h2 : b ≠ bw) (h5 : Shape.R5 sh.a sh.b sh.c sh.d sh.e) (hxh : 0 ≤ x.had ∧ x.had ≤ 18446744073709551615)
  (hx : stepOf n f ⟨hand, 1, headAt sh ix, 0, 0, true⟩ = x) (hf' : wordsOf n f ⟨hand, 1, headAt sh ix, 0, 0, true⟩ = f') :
  Calls Tryz.prog 66 #[.pointer (some ⟨b, 0, none⟩), .pointer (some ⟨bm, 0, none⟩)] w fun e w' => e = .returned (.tuple #[x.val, .int .i64 0]) ∧
   w'.rowIs b 99 16 (mC sh hand (.func (.func 100) #[.pointer (some ⟨b, 0, none⟩)] #[]) v2 v3 t fl c ix (x.had / 4294967296)) ∧ IsMem w' bm bw n f' ∧ Touch w w' (fun k => k = b ∨ k = bw) := by
 have hl := h_.lt
 have lw := hm.row.lt
 have lm := hm.head.lt
 have hn3 : w.heap.size ≠ b := by omega
 have hn4 : w.heap.size ≠ bw := by omega
 have hn5 : w.heap.size ≠ bm := by omega
 obtain ⟨W1, hW1⟩ : ∃ W1, w.alloc (.cells #[.int .i64 0, .int .i64 0, .int .i64 0, .int .u64 0, .int .u64 0, .bool false] 69) = W1 := ⟨_, rfl⟩
 have R := hide (show W1.rowIs b 99 16 (mC sh hand fn v2 v3 t fl c ix gn) from by rw [← hW1]; exact h_.alloc _)
 have M := hide (show IsMem W1 bm bw n f from by rw [← hW1]; exact hm.alloc _)
 have RZ := hide (show W1.rowIs w.heap.size 69 6 zcell from by rw [← hW1]; exact row0 w)
 have T0 := hide (show Touch w W1 (fun k => k = b ∨ k = bw) from by rw [← hW1]; exact (Touch.refl w _).alloc _)
 have sz : W1.heap.size = w.heap.size + 1 := by rw [← hW1]; simp
 have lW1 : b < W1.heap.size := by omega
 obtain ⟨dS, hdS1, hdS2⟩ := row46
 have HD := hide (And.intro hdS1 hdS2)
 obtain ⟨dG, hdG1, hdG2⟩ := rowSh
 have HDS := hide (And.intro hdG1 hdG2)
 have HX := hide hx
 have HF := hide hf'
 have HW : Hid (0 ≤ (⟨hand, 1, headAt sh ix, 0, 0, true⟩ : Stp).put ∧ (⟨hand, 1, headAt sh ix, 0, 0, true⟩ : Stp).put ≤ 18446744073709551615) := ⟨by show (0 : Int) ≤ 0; omega, by show (0 : Int) ≤ 18446744073709551615; omega⟩
 have IX := hide (fun w1 : World => gen_any x.had hxh.1 (by omega) w1)
 have H5 := hide h5
 clear hm h_ hx hf' hdS1 hdS2 hdG1 hdG2 hxh h5
 go_enter Tryz.func66, Tryz.ntmps66
 go_wp2_with fail
 clear hW1
 refine RG.regionB 16 (ks := [(0, 7), (1, 8), (2, 9), (3, 10), (4, 11), (5, 12), (6, 13), (7, 14), (8, 15), (9, 16), (10, 17), (11, 18), (12, 19), (13, 20)]) (vals := fun i => match i with
   | 0 => .pointer (some ⟨b, 0, none⟩)
   | 1 => .pointer (some ⟨b, 0, none⟩)
   | 2 => .pointer (some ⟨b, 0, none⟩)
   | 3 => .pointer (some ⟨bm, 0, none⟩)
   | 4 => .pointer (some ⟨b, 0, none⟩)
   | 5 => .pointer (some ⟨b, 0, none⟩)
   | 6 => .pointer (some ⟨b, 6, none⟩)
   | 7 => sh.val
   | 8 => .pointer (some ⟨b, 0, none⟩)
   | 9 => .pointer (some ⟨b, 0, none⟩)
   | 10 => .pointer (some ⟨b, 14, none⟩)
   | 11 => .int .i64 ix
   | 12 => .int .i64 (headAt sh ix)
   | 13 => x.val
   | _ => undef) (x := 6) (WI := fun L v_ w' => RG.SW b 99 16 (mC sh hand fn v2 v3 t fl c ix gn) bm bw n f f' x w.heap.size W1 (L 13) (L 14) (L 15) v_ w') (by kernel_rfl) (by kernel_rfl) rfl (by kernel_rfl) (by kernel_rfl) (RG.SW.start R.out M.out RZ.out) ?does ?fin
 case does =>
  intro i o ho
  have hi : i < 16 := RG.lt_of ho rfl
  match i, hi with
  | 0, _ => cases ho; exact RG.rW rfl rfl (fun L a w' hI hd => ex_move rfl (hI.fx 0 rfl))
  | 1, _ => cases ho; exact RG.rW rfl rfl (fun L a w' hI hd => ex_nil rfl (hI.pure 0 _ _ rfl (hd ⟨0, .data⟩ (by simp) rfl)))
  | 2, _ => cases ho; exact RG.rW rfl rfl (fun L a w' hI hd => ex_field rfl (hI.pure 1 _ _ rfl (hd ⟨1, .data⟩ (by simp) rfl)) (fieldM0 w' _))
  | 3, _ => cases ho; exact RG.rW rfl rfl (fun L a w' hI hd => ex_move rfl (hI.fx 1 rfl))
  | 4, _ => cases ho; exact RG.rW rfl rfl (fun L a w' hI hd => ex_move rfl (hI.fx 0 rfl))
  | 5, _ => cases ho; exact RG.rW rfl rfl (fun L a w' hI hd => ex_nil rfl (hI.pure 4 _ _ rfl (hd ⟨4, .data⟩ (by simp) rfl)))
  | 6, _ => cases ho; exact RG.rW rfl rfl (fun L a w' hI hd => ex_field rfl (hI.pure 5 _ _ rfl (hd ⟨5, .data⟩ (by simp) rfl)) (fieldM1 w' _))
  | 7, _ => cases ho; exact RG.rW rfl rfl (fun L a w' hI hd => ex_load_row rfl (hI.pure 6 _ _ rfl (hd ⟨6, .data⟩ (by simp) rfl)) (shrowAt (o := 6) (sh := sh) (by omega) rfl rfl rfl rfl rfl rfl hI.world.row) HDS.out.1 HDS.out.2 sizeSh)
  | 8, _ => cases ho; exact RG.rW rfl rfl (fun L a w' hI hd => ex_move rfl (hI.fx 0 rfl))
  | 9, _ => cases ho; exact RG.rW rfl rfl (fun L a w' hI hd => ex_nil rfl (hI.pure 8 _ _ rfl (hd ⟨8, .data⟩ (by simp) rfl)))
  | 10, _ => cases ho; exact RG.rW rfl rfl (fun L a w' hI hd => ex_field rfl (hI.pure 9 _ _ rfl (hd ⟨9, .data⟩ (by simp) rfl)) (fieldM4 w' _))
  | 11, _ => cases ho; exact RG.rW rfl rfl (fun L a w' hI hd => ex_load rfl (hI.pure 10 _ _ rfl (hd ⟨10, .data⟩ (by simp) rfl)) (aggI w') (hI.world.row.cell (i := 14) (by omega)))
  | 12, _ => cases ho; exact RG.Does.call rfl (fun L a w' hI hd => call2 rfl (hI.pure 7 _ _ rfl (hd ⟨7, .data⟩ (by simp) rfl)) (hI.pure 11 _ _ rfl (hd ⟨11, .data⟩ (by simp) rfl)) rfl (by simp [go_sem])) (fun L v_ w2 hI hL => ((fun w9 : World => headAt_any H5.out ix w9) w2).mono (by rintro e w3 ⟨rfl, hb⟩; exact ⟨rfl, RG.SW.skip (by decide) (by decide) (by decide)  (SWq hI hb)⟩))
  | 13, _ => cases ho; exact RG.Does.call rfl (fun L a w' hI hd => call3 rfl (hI.pure 2 _ _ rfl (hd ⟨2, .data⟩ (by simp) rfl)) (hI.pure 3 _ _ rfl (hd ⟨3, .data⟩ (by simp) rfl)) (hI.pure 12 _ _ rfl (hd ⟨12, .data⟩ (by simp) rfl)) rfl (by simp [go_sem])) (SWcalls h2 hn4 (by decide) (by decide) (fun w2 R2 M2 => load_any (R2.cell (i := 0) (by omega)) R2.lt M2 HW.out HX.out HF.out))
  | 14, _ => cases ho; exact RG.Does.make (u := fun w' => .pointer (some ⟨w'.heap.size, 0, none⟩)) rfl rfl (fun ev w' => alloc46 rfl) (fun L v_ w' h hL => by have := RG.SW.make h hL; rw [← upd_same L 14 true] at this; simpa only [upd_other _ _ (show 13 ≠ 14 by decide), upd_other _ _ (show 15 ≠ 14 by decide)] using this)
  | 15, _ => cases ho; exact RG.Does.put (ls := x.cells) rfl rfl rfl size46 (by simp [Stp.cells, Value.oneCell']) (fun L a w' hI hL hd => ⟨(hI.pure 13 _ _ rfl (hd ⟨13, .data⟩ (by simp) rfl)), by obtain ⟨q, e1, e2, e3⟩ := RG.SW.put hI.world (hd ⟨13, .data⟩ (by simp) rfl) (hd ⟨14, .data⟩ (by simp) rfl) hL; exact ⟨q, 0, e1, e2, by rw [← upd_same L 15 true] at e3; simpa only [upd_other _ _ (show 13 ≠ 15 by decide), upd_other _ _ (show 14 ≠ 15 by decide)] using e3⟩⟩)
 case fin =>
  intro L a' w1 hI hall
  have hw := hI.world
  simp only [hall 13 (by decide), hall 14 (by decide), hall 15 (by decide), if_true] at hw
  obtain ⟨q, hq, hq1, hq2, _, hr⟩ := hw.own rfl
  replace hr := hr rfl
  have ea := act_all a' 34 (by rw [hI.sz]; rfl) hI.df
  simp only [List.range, List.range.loop, List.map] at ea
  rw [hI.fx 0 rfl, hI.fx 1 rfl, hI.fx 2 rfl, hI.fx 3 rfl, hI.fx 4 rfl, hI.fx 5 rfl, hI.fx 21 rfl, hI.fx 22 rfl, hI.fx 23 rfl, hI.fx 24 rfl, hI.fx 25 rfl, hI.fx 26 rfl, hI.fx 27 rfl, hI.fx 28 rfl, hI.fx 29 rfl, hI.fx 30 rfl, hI.fx 31 rfl, hI.fx 32 rfl, hI.fx 33 rfl, hq] at ea
  clear hI hall
  obtain ⟨us, hus⟩ : ∃ us : Nat → Value, ∀ k, a'.eval (.tmp k) = us k := ⟨_, fun _ => rfl⟩
  simp only [hus] at ea
  simp only [show ∀ (ts : Array Value) (ds) (i : Nat), (Act.mk ts ds).eval (.tmp i) = ts.getD i undef from fun _ _ _ => rfl] at ea
  simp at ea
  subst ea
  have M1 := hide (show IsMem w1 bm bw n f' from by simpa using hw.mem)
  have R1 := hide hw.row
  have RR := hide hw.res
  have T1 := hide (T0.out.trans' hw.tch (fun k _ h => .inr h))
  have RQ := hide hr
  have hqb : q ≠ b := by omega
  have hqr : q ≠ w.heap.size := by omega
  have hqm : q ≠ bm ∧ q ≠ bw := by omega
  have lw1 := hw.tch.size
  have l1 : b < w1.heap.size := by omega
  have l2 : w.heap.size < w1.heap.size := by omega
  have l3 : q < w1.heap.size := by omega
  clear hw hr hq
  obtain ⟨s0, s1, s2, s3, s4, s5⟩ := stp6 RQ.out
  have Rw1 := R1
  have Mw1 := M1
  have Qw1 := RR
  have Sw1 := RQ
  have Tw1 := T1
  have db := R1.out.cell (i := 15) (by omega)
  have dfb := R1.out.frozen 15
  obtain ⟨V, hV⟩ : ∃ W', w1.setCell ⟨b, 15, none⟩ (.int .u64 (x.had / 4294967296)) = W' := ⟨_, rfl⟩
  have tV : Touch w1 V (fun k => k = b) := by
   rw [← hV]
   exact Touch.trans' (S' := fun k => k = b) (⟨rfl, rfl, rfl, Nat.le_refl _, fun _ _ _ => rfl⟩ : Touch w1 w1 (fun k => k = b)) ((Touch.refl w1 _).setCell (S := fun k => k = b) ⟨b, 15, none⟩ (.inl rfl) _) (fun k _ h => h)
  have RV := hide (show V.rowIs b 99 16 (mC sh hand fn v2 v3 t fl c ix (x.had / 4294967296)) from by
   rw [← hV]
   exact World.rowIs.congr (World.rowIs.set (show World.rowIs w1 b 99 16 _ from Rw1.out.of_block rfl) 15 _) (fun i hi => m_gn _ _ _ _ _ _ _ _ _ _ _ i hi))
  have QV := hide (Qw1.out.of_block (tV.block _ (by omega) (by omega)))
  have MV := hide (show IsMem V bm bw n f' from ⟨Mw1.out.head.of_block (tV.block _ Mw1.out.head.lt (by omega)), Mw1.out.row.of_block (tV.block _ Mw1.out.row.lt (by omega)), Mw1.out.most, Mw1.out.word⟩)
  have TV := hide (show Touch w V (fun k => k = b ∨ k = bw) from Tw1.out.trans' tV (fun k _ h => .inl h))
  have SV := hide (rangeAt_block Sw1.out (tV.block q (by omega) (by omega)))
  have szV : V.heap.size = w1.heap.size := by rw [← hV] <;> first | (simp; done) | rfl | (simp; rfl)
  clear tV
  go_wp2_with (go_at_call 99; refine (IX.out _).mono ?_; rintro e wq ⟨rfl, hwq⟩; obtain rfl := hwq.symm)
  clear hV s0 s1 s2 s3 s4 s5 db dfb
  refine RG.regionB 9 (ks := [(0, 27), (1, 28), (2, 29), (3, 30), (4, 31), (5, 32), (6, 33), (8, 5)]) (vals := fun i => match i with
     | 0 => x.val
     | 1 => .pointer (some ⟨b, 0, none⟩)
     | 2 => .pointer (some ⟨b, 0, none⟩)
     | 3 => .pointer (some ⟨b, 0, none⟩)
     | 4 => .pointer (some ⟨b, 0, none⟩)
     | 5 => .func (.func 100) #[.pointer (some ⟨b, 0, none⟩)] #[]
     | 6 => .int .i64 0
     | 8 => .int .i64 0
     | _ => undef) (x := 2) (WI := fun L v_ w' => RG.SX b 99 16 (fun c_ g_ => mC sh hand (if g_ = true then (.func (.func 100) #[.pointer (some ⟨b, 0, none⟩)] #[]) else fn) v2 v3 t fl c ix (x.had / 4294967296)) bm bw n f' f' x w.heap.size (some q) V true (L 6) (L 7) w') (by kernel_rfl) (by kernel_rfl) rfl (by kernel_rfl) (by kernel_rfl) (RG.SX.start (c := true) (g := false) RV.out (by simpa using MV.out) QV.out ⟨h1, h2, hn3, hn5, hn4⟩ (fun k e => by cases e; exact ⟨SV.out, by omega, hqb, hqm.2, hqr⟩)) ?does ?fin
  case does =>
   intro i o ho
   have hi : i < 9 := RG.lt_of ho rfl
   match i, hi with
   | 0, _ => cases ho; exact RG.rX2 rfl rfl (fun L a w' hI hd => ex_load_row rfl (hI.fx 6 rfl) (hI.world.var _ rfl).1 HD.out.1 HD.out.2 size46)
   | 1, _ => cases ho; exact RG.rX2 rfl rfl (fun L a w' hI hd => ex_move rfl (hI.fx 0 rfl))
   | 2, _ => cases ho; exact RG.rX2 rfl rfl (fun L a w' hI hd => ex_nil rfl (hI.pure 1 _ _ rfl (hd ⟨1, .data⟩ (by simp) rfl)))
   | 3, _ => cases ho; exact RG.rX2 rfl rfl (fun L a w' hI hd => ex_field rfl (hI.pure 2 _ _ rfl (hd ⟨2, .data⟩ (by simp) rfl)) (fieldM0 w' _))
   | 4, _ => cases ho; exact RG.rX2 rfl rfl (fun L a w' hI hd => ex_move rfl (hI.fx 0 rfl))
   | 5, _ => cases ho; exact RG.rX2 rfl rfl (fun L a w' hI hd => ex_func rfl (hI.pure 4 _ _ rfl (hd ⟨4, .data⟩ (by simp) rfl)))
   | 6, _ => cases ho; exact RG.Does.call rfl (fun L a w' hI hd => call2 rfl (hI.pure 3 _ _ rfl (hd ⟨3, .data⟩ (by simp) rfl)) (hI.pure 5 _ _ rfl (hd ⟨5, .data⟩ (by simp) rfl)) rfl (by simp [go_sem])) (fun L v_ w2 hI hL => by have h3 := hI; rw [hL] at h3; refine (goOn_any 100 h3.row (by omega)).mono ?_; rintro e w3 ⟨rfl, r3, t3⟩; refine ⟨rfl, ?_⟩; rw [upd_same, upd_other _ _ (show 7 ≠ 6 by decide)]; exact h3.turn (g' := true) (r3.congr (fun i hi => m_fn _ _ _ _ _ _ _ _ _ _ _ i hi)) ⟨h3.mem.head.of_block (t3.block _ h3.mem.head.lt (fun e => h1 e.symm)), h3.mem.row.of_block (t3.block _ h3.mem.row.lt (fun e => h2 e.symm)), h3.mem.most, h3.mem.word⟩ t3 (fun k e => .inl e))
   | 7, _ => cases ho; exact RG.Does.put (ls := x.cells) rfl rfl rfl size46 (by simp [Stp.cells, Value.oneCell']) (fun L a w' hI hL hdd => ⟨(hI.pure 0 _ _ rfl (hdd ⟨0, .data⟩ (by simp) rfl)), by obtain ⟨e2, e3⟩ := RG.SX.put hI.world; exact ⟨w.heap.size, 0, hI.fx 4 rfl, e2, by show RG.SX b 99 16 (fun c_ g_ => mC sh hand (if g_ = true then (.func (.func 100) #[.pointer (some ⟨b, 0, none⟩)] #[]) else fn) v2 v3 t fl c ix (x.had / 4294967296)) bm bw n f' f' x w.heap.size (some q) V true (upd L 7 true 6) (upd L 7 true 7) _; rw [upd_same, upd_other _ _ (show 6 ≠ 7 by decide)]; exact e3⟩⟩)
   | 8, _ => cases ho; exact RG.rX2 rfl rfl (fun L a w' hI hd => ex_assign rfl (hI.pure 6 _ _ rfl (hd ⟨6, .data⟩ (by simp) rfl)))
  case fin =>
   intro L a' w' hI hall
   rename_i K2 hK2
   refine hK2 _ _ ?_
   have hw := hI.world
   simp only [hall 6 (by decide), hall 7 (by decide)] at hw
   have rE := hw.sto rfl
   have pE : a'.eval (.tmp 4) = .pointer (some ⟨w.heap.size, 0, none⟩) := hI.fx 4 rfl
   have pe : a'.eval (.tmp 5) = .int .i64 0 := hI.pure 8 5 _ rfl (hall 8 (by decide))
   have hdf : a'.defers = [] := hI.df
   have hS := run_loadVar_mid (P := Tryz.prog) w' w.heap.size 0 _ _ dS rE HD.out.1 HD.out.2 size46
   have hres := results_ct (Q := Tryz.prog) (fn := Tryz.f66) (tmps := a'.tmps) (t := 4) (t' := 5) (W := w') (by rfl) pE hS
   rw [show a'.tmps.getD 5 undef = .int .i64 0 from pe] at hres
   go_wp2
   exact bodyPost_ret (v := .tuple #[x.val, .int .i64 0]) hres hdf ⟨rfl, hw.row, by simpa using hw.mem, TV.out.trans' hw.tch (fun k hk h => by rcases h with h | h | h; exact .inl h; exact .inr h; omega)⟩
theorem mcount_any {w : World} {b bm bw n : Nat} {f f' : Nat → Int} {x : Stp} {sh : Shp} {hand : Int} {fn v2 v3 : Value} {t : Ans} {fl : Bool} {c ix gn : Int} (h_ : w.rowIs b 99 16 (mC sh hand fn v2 v3 t fl c ix gn)) (hm : IsMem w bm bw n f) (h1 : b ≠ bm) (h2 : b ≠ bw)
  (hx : stepOf n f ⟨hand, 4, 4, 0, 1, true⟩ = x) (hf' : wordsOf n f ⟨hand, 4, 4, 0, 1, true⟩ = f') :
  Calls Tryz.prog 118 #[.pointer (some ⟨b, 0, none⟩), .pointer (some ⟨bm, 0, none⟩)] w fun e w' => e = .returned (.tuple #[x.val, .int .i64 1]) ∧
   w'.rowIs b 99 16 (mC sh hand fn v2 v3 ⟨true, hd ix gn⟩ fl c ix gn) ∧ IsMem w' bm bw n f' ∧ Touch w w' (fun k => k = b ∨ k = bw) := by
 have hl := h_.lt
 have lw := hm.row.lt
 have lm := hm.head.lt
 have hn3 : w.heap.size ≠ b := by omega
 have hn4 : w.heap.size ≠ bw := by omega
 have hn5 : w.heap.size ≠ bm := by omega
 obtain ⟨W1, hW1⟩ : ∃ W1, w.alloc (.cells #[.int .i64 0, .int .i64 0, .int .i64 0, .int .u64 0, .int .u64 0, .bool false] 69) = W1 := ⟨_, rfl⟩
 have R := hide (show W1.rowIs b 99 16 (mC sh hand fn v2 v3 t fl c ix gn) from by rw [← hW1]; exact h_.alloc _)
 have M := hide (show IsMem W1 bm bw n f from by rw [← hW1]; exact hm.alloc _)
 have RZ := hide (show W1.rowIs w.heap.size 69 6 zcell from by rw [← hW1]; exact row0 w)
 have T0 := hide (show Touch w W1 (fun k => k = b ∨ k = bw) from by rw [← hW1]; exact (Touch.refl w _).alloc _)
 have sz : W1.heap.size = w.heap.size + 1 := by rw [← hW1]; simp
 have lW1 : b < W1.heap.size := by omega
 obtain ⟨dS, hdS1, hdS2⟩ := row46
 have HD := hide (And.intro hdS1 hdS2)
 obtain ⟨dG, hdG1, hdG2⟩ := rowSh
 have HDS := hide (And.intro hdG1 hdG2)
 have HX := hide hx
 have HF := hide hf'
 have HW : Hid (0 ≤ (⟨hand, 4, 4, 0, 1, true⟩ : Stp).put ∧ (⟨hand, 4, 4, 0, 1, true⟩ : Stp).put ≤ 18446744073709551615) := ⟨by show (0 : Int) ≤ 1; omega, by show (1 : Int) ≤ 18446744073709551615; omega⟩
 clear hm h_ hx hf' hdS1 hdS2 hdG1 hdG2
 go_enter Tryz.func118, Tryz.ntmps118
 go_wp2_with fail
 clear hW1
 have RW1 := R
 have MW1 := M
 have QW1 := RZ
 have TW1 := T0
 refine RG.regionB 20 (ks := [(0, 6), (1, 7), (2, 8), (3, 9), (4, 10), (5, 11), (6, 12), (7, 13), (8, 14), (9, 15), (10, 16), (11, 17), (12, 18), (13, 19), (14, 20), (15, 21), (16, 22), (17, 23), (19, 5)]) (vals := fun i => match i with
    | 0 => .pointer (some ⟨b, 0, none⟩)
    | 1 => .pointer (some ⟨b, 0, none⟩)
    | 2 => .pointer (some ⟨b, 0, none⟩)
    | 3 => .pointer (some ⟨bm, 0, none⟩)
    | 4 => x.val
    | 5 => .pointer (some ⟨b, 0, none⟩)
    | 6 => .pointer (some ⟨b, 0, none⟩)
    | 7 => .pointer (some ⟨b, 0, none⟩)
    | 8 => .pointer (some ⟨b, 0, none⟩)
    | 9 => .pointer (some ⟨b, 0, none⟩)
    | 10 => .pointer (some ⟨b, 14, none⟩)
    | 11 => .int .i64 ix
    | 12 => .pointer (some ⟨b, 0, none⟩)
    | 13 => .pointer (some ⟨b, 0, none⟩)
    | 14 => .pointer (some ⟨b, 15, none⟩)
    | 15 => .int .u64 gn
    | 16 => .int .u64 (hd ix gn)
    | 17 => .int .i64 1
    | 19 => .int .i64 1
    | _ => undef) (x := 2) (WI := fun L v_ w' => RG.SX b 99 16 (fun c_ g_ => mC sh hand fn v2 v3 (if g_ = true then ⟨true, hd ix gn⟩ else t) fl c ix gn) bm bw n f f' x w.heap.size none W1 (L 4) (L 17) (L 18) w') (by kernel_rfl) (by kernel_rfl) rfl (by kernel_rfl) (by kernel_rfl) (RG.SX.start (c := false) (g := false) RW1.out (by simpa using MW1.out) QW1.out ⟨h1, h2, hn3, hn5, hn4⟩ (fun k e => by cases e)) ?does ?fin
 case does =>
  intro i o ho
  have hi : i < 20 := RG.lt_of ho rfl
  match i, hi with
  | 0, _ => cases ho; exact RG.rX rfl rfl (fun L a w' hI hd => ex_move rfl (hI.fx 0 rfl))
  | 1, _ => cases ho; exact RG.rX rfl rfl (fun L a w' hI hd => ex_nil rfl (hI.pure 0 _ _ rfl (hd ⟨0, .data⟩ (by simp) rfl)))
  | 2, _ => cases ho; exact RG.rX rfl rfl (fun L a w' hI hd => ex_field rfl (hI.pure 1 _ _ rfl (hd ⟨1, .data⟩ (by simp) rfl)) (fieldM0 w' _))
  | 3, _ => cases ho; exact RG.rX rfl rfl (fun L a w' hI hd => ex_move rfl (hI.fx 1 rfl))
  | 4, _ => cases ho; exact RG.Does.call rfl (fun L a w' hI hd => call4 rfl (hI.pure 2 _ _ rfl (hd ⟨2, .data⟩ (by simp) rfl)) (hI.pure 3 _ _ rfl (hd ⟨3, .data⟩ (by simp) rfl)) rfl rfl rfl (by simp [go_sem])) (fun L v_ w2 hI hL => by have h3 := hI; rw [hL] at h3; refine (row_act h3.row h2 (add_any (show World.cell? w2 ⟨b, 0, none⟩ = some (.int .i64 hand) from h3.row.cell (i := 0) (by omega)) h3.row.lt (by simpa using h3.mem) HW.out HX.out HF.out)).mono ?_; rintro e w3 ⟨rfl, r3, m3, t3⟩; refine ⟨rfl, ?_⟩; rw [upd_same, upd_other _ _ (show 17 ≠ 4 by decide), upd_other _ _ (show 18 ≠ 4 by decide)]; exact h3.turn (c' := true) (r3.congr (fun i hi => (fun _ _ => rfl) i hi)) (by simpa using m3) t3 (fun k e => e))
  | 5, _ => cases ho; exact RG.rX rfl rfl (fun L a w' hI hd => ex_move rfl (hI.fx 0 rfl))
  | 6, _ => cases ho; exact RG.rX rfl rfl (fun L a w' hI hd => ex_nil rfl (hI.pure 5 _ _ rfl (hd ⟨5, .data⟩ (by simp) rfl)))
  | 7, _ => cases ho; exact RG.rX rfl rfl (fun L a w' hI hd => ex_field rfl (hI.pure 6 _ _ rfl (hd ⟨6, .data⟩ (by simp) rfl)) (fieldM0 w' _))
  | 8, _ => cases ho; exact RG.rX rfl rfl (fun L a w' hI hd => ex_move rfl (hI.fx 0 rfl))
  | 9, _ => cases ho; exact RG.rX rfl rfl (fun L a w' hI hd => ex_nil rfl (hI.pure 8 _ _ rfl (hd ⟨8, .data⟩ (by simp) rfl)))
  | 10, _ => cases ho; exact RG.rX rfl rfl (fun L a w' hI hd => ex_field rfl (hI.pure 9 _ _ rfl (hd ⟨9, .data⟩ (by simp) rfl)) (fieldM4 w' _))
  | 11, _ => cases ho; exact RG.rX rfl rfl (fun L a w' hI hd => ex_load rfl (hI.pure 10 _ _ rfl (hd ⟨10, .data⟩ (by simp) rfl)) (aggI w') (hI.world.row.cell (i := 14) (by omega)))
  | 12, _ => cases ho; exact RG.rX rfl rfl (fun L a w' hI hd => ex_move rfl (hI.fx 0 rfl))
  | 13, _ => cases ho; exact RG.rX rfl rfl (fun L a w' hI hd => ex_nil rfl (hI.pure 12 _ _ rfl (hd ⟨12, .data⟩ (by simp) rfl)))
  | 14, _ => cases ho; exact RG.rX rfl rfl (fun L a w' hI hd => ex_field rfl (hI.pure 13 _ _ rfl (hd ⟨13, .data⟩ (by simp) rfl)) (fieldM5 w' _))
  | 15, _ => cases ho; exact RG.rX rfl rfl (fun L a w' hI hd => ex_load rfl (hI.pure 14 _ _ rfl (hd ⟨14, .data⟩ (by simp) rfl)) (aggU w') (hI.world.row.cell (i := 15) (by omega)))
  | 16, _ => cases ho; exact RG.Does.ask rfl (fun L v_ w' h => RG.SX.skip (by decide) (by decide) (by decide) h) (fun L a w' hI hd => call2 rfl (hI.pure 11 _ _ rfl (hd ⟨11, .data⟩ (by simp) rfl)) (hI.pure 15 _ _ rfl (hd ⟨15, .data⟩ (by simp) rfl)) rfl (by simp [go_sem])) (fun w9 : World => handle_any ix gn w9)
  | 17, _ => cases ho; exact RG.Does.call rfl (fun L a w' hI hd => call2 rfl (hI.pure 7 _ _ rfl (hd ⟨7, .data⟩ (by simp) rfl)) (hI.pure 16 _ _ rfl (hd ⟨16, .data⟩ (by simp) rfl)) rfl (by simp [go_sem])) (fun L v_ w2 hI hL => by have h3 := hI; rw [hL] at h3; refine (end_any ⟨hd_lo _ _, by have := hd_hi ix gn; omega⟩ h3.row (by omega)).mono ?_; rintro e w3 ⟨rfl, r3, t3⟩; refine ⟨rfl, ?_⟩; rw [upd_same, upd_other _ _ (show 4 ≠ 17 by decide), upd_other _ _ (show 18 ≠ 17 by decide)]; exact h3.turn (g' := true) (r3.congr (fun i hi => m_told _ _ _ _ _ _ _ _ _ _ _ i hi)) ⟨h3.mem.head.of_block (t3.block _ h3.mem.head.lt (fun e => h1 e.symm)), h3.mem.row.of_block (t3.block _ h3.mem.row.lt (fun e => h2 e.symm)), h3.mem.most, h3.mem.word⟩ t3 (fun k e => .inl e))
  | 18, _ => cases ho; exact RG.Does.put (ls := x.cells) rfl rfl rfl size46 (by simp [Stp.cells, Value.oneCell']) (fun L a w' hI hL hdd => ⟨(hI.pure 4 _ _ rfl (hdd ⟨4, .data⟩ (by simp) rfl)), by obtain ⟨e2, e3⟩ := RG.SX.put hI.world; exact ⟨w.heap.size, 0, hI.fx 4 rfl, e2, by show RG.SX b 99 16 (fun c_ g_ => mC sh hand fn v2 v3 (if g_ = true then ⟨true, hd ix gn⟩ else t) fl c ix gn) bm bw n f f' x w.heap.size none W1 (upd L 18 true 4) (upd L 18 true 17) (upd L 18 true 18) _; rw [upd_same, upd_other _ _ (show 4 ≠ 18 by decide), upd_other _ _ (show 17 ≠ 18 by decide)]; exact e3⟩⟩)
  | 19, _ => cases ho; exact RG.rX rfl rfl (fun L a w' hI hd => ex_assign rfl (hI.pure 17 _ _ rfl (hd ⟨17, .data⟩ (by simp) rfl)))
 case fin =>
  intro L a' w' hI hall
  rename_i K2 hK2
  refine hK2 _ _ ?_
  have hw := hI.world
  simp only [hall 4 (by decide), hall 17 (by decide), hall 18 (by decide)] at hw
  have rE := hw.sto rfl
  have pE : a'.eval (.tmp 4) = .pointer (some ⟨w.heap.size, 0, none⟩) := hI.fx 4 rfl
  have pe : a'.eval (.tmp 5) = .int .i64 1 := hI.pure 19 5 _ rfl (hall 19 (by decide))
  have hdf : a'.defers = [] := hI.df
  have hS := run_loadVar_mid (P := Tryz.prog) w' w.heap.size 0 _ _ dS rE HD.out.1 HD.out.2 size46
  have hres := results_ct (Q := Tryz.prog) (fn := Tryz.f118) (tmps := a'.tmps) (t := 4) (t' := 5) (W := w') (by rfl) pE hS
  rw [show a'.tmps.getD 5 undef = .int .i64 1 from pe] at hres
  go_wp2
  exact bodyPost_ret (v := .tuple #[x.val, .int .i64 1]) hres hdf ⟨rfl, hw.row, by simpa using hw.mem, TW1.out.trans' hw.tch (fun k hk h => by rcases h with h | h | h; exact .inl h; exact .inr h; omega)⟩
theorem use_any {w : World} {b bm bw n : Nat} {f f' : Nat → Int} {x : Stp} {sh : Shp} {hand : Int} {fn v2 v3 : Value} {t : Ans} {fl : Bool} {c ix gn : Int} (h_ : w.rowIs b 99 16 (mC sh hand fn v2 v3 t fl c ix gn)) (hm : IsMem w bm bw n f) (h1 : b ≠ bm) (h2 : b ≠ bw) (h5 : Shape.R5 sh.a sh.b sh.c sh.d sh.e) (hn : 0 ≤ gn ∧ gn ≤ 4294967295) (hc : c = 0 ∨ c = 1)
  (hx : stepOf n f ⟨hand, 2, headAt sh ix, 0, packW true (ownB true c) fl false 0 gn, true⟩ = x) (hf' : wordsOf n f ⟨hand, 2, headAt sh ix, 0, packW true (ownB true c) fl false 0 gn, true⟩ = f') :
  Calls Tryz.prog 100 #[.pointer (some ⟨b, 0, none⟩), .pointer (some ⟨bm, 0, none⟩)] w fun e w' => e = .returned (.tuple #[x.val, .int .i64 0]) ∧
   w'.rowIs b 99 16 (mC sh hand (.func (.func 118) #[.pointer (some ⟨b, 0, none⟩)] #[]) v2 v3 t fl c ix gn) ∧ IsMem w' bm bw n f' ∧ Touch w w' (fun k => k = b ∨ k = bw) := by
 have hl := h_.lt
 have lw := hm.row.lt
 have lm := hm.head.lt
 have hn3 : w.heap.size ≠ b := by omega
 have hn4 : w.heap.size ≠ bw := by omega
 have hn5 : w.heap.size ≠ bm := by omega
 obtain ⟨W1, hW1⟩ : ∃ W1, w.alloc (.cells #[.int .i64 0, .int .i64 0, .int .i64 0, .int .u64 0, .int .u64 0, .bool false] 69) = W1 := ⟨_, rfl⟩
 have R := hide (show W1.rowIs b 99 16 (mC sh hand fn v2 v3 t fl c ix gn) from by rw [← hW1]; exact h_.alloc _)
 have M := hide (show IsMem W1 bm bw n f from by rw [← hW1]; exact hm.alloc _)
 have RZ := hide (show W1.rowIs w.heap.size 69 6 zcell from by rw [← hW1]; exact row0 w)
 have T0 := hide (show Touch w W1 (fun k => k = b ∨ k = bw) from by rw [← hW1]; exact (Touch.refl w _).alloc _)
 have sz : W1.heap.size = w.heap.size + 1 := by rw [← hW1]; simp
 have lW1 : b < W1.heap.size := by omega
 obtain ⟨dS, hdS1, hdS2⟩ := row46
 have HD := hide (And.intro hdS1 hdS2)
 obtain ⟨dG, hdG1, hdG2⟩ := rowSh
 have HDS := hide (And.intro hdG1 hdG2)
 have HX := hide hx
 have HF := hide hf'
 have HW : Hid (0 ≤ (⟨hand, 2, headAt sh ix, 0, packW true (ownB true c) fl false 0 gn, true⟩ : Stp).put ∧ (⟨hand, 2, headAt sh ix, 0, packW true (ownB true c) fl false 0 gn, true⟩ : Stp).put ≤ 18446744073709551615) := (by have := bits_lt true (ownB true c) fl false; show 0 ≤ packW true (ownB true c) fl false 0 gn ∧ packW true (ownB true c) fl false 0 gn ≤ _; unfold packW; omega)
 have PK := hide (fun w1 : World => pack_use fl hn hc w1)
 obtain ⟨hv, ehv⟩ : ∃ v, packW true (ownB true c) fl false 0 gn = v := ⟨_, rfl⟩
 rw [ehv] at PK HX HF HW
 clear ehv
 have H5 := hide h5
 clear hm h_ hx hf' hdS1 hdS2 hdG1 hdG2 h5 hn hc
 go_enter Tryz.func100, Tryz.ntmps100
 go_wp2_with fail
 clear hW1
 have RW1 := R
 have MW1 := M
 have QW1 := RZ
 have TW1 := T0
 refine RG.regionB 19 (ks := [(0, 9), (1, 10), (2, 11), (3, 12), (4, 13), (5, 14), (6, 15), (7, 16), (8, 17), (9, 18), (10, 19), (11, 20), (12, 21), (13, 22), (14, 8), (15, 23), (16, 24), (17, 6), (18, 7)]) (vals := fun i => match i with
   | 0 => .pointer (some ⟨b, 0, none⟩)
   | 1 => .pointer (some ⟨b, 0, none⟩)
   | 2 => .pointer (some ⟨b, 12, none⟩)
   | 3 => .bool fl
   | 4 => .pointer (some ⟨b, 0, none⟩)
   | 5 => .pointer (some ⟨b, 0, none⟩)
   | 6 => .pointer (some ⟨b, 15, none⟩)
   | 7 => .int .u64 gn
   | 8 => .agg #[.bool true, .bool true, .bool fl, .bool false, .int .i64 0, .int .u64 gn, .int .u64 0, .int .u64 0, .slice none 0 0]
   | 9 => .pointer (some ⟨b, 0, none⟩)
   | 10 => .pointer (some ⟨b, 0, none⟩)
   | 11 => .pointer (some ⟨b, 13, none⟩)
   | 12 => .int .i64 c
   | 13 => .tuple #[.int .u64 hv, .int .i64 0]
   | 14 => .tuple #[.int .u64 hv, .int .i64 0]
   | 15 => .int .u64 hv
   | 16 => .int .i64 0
   | 17 => .int .u64 hv
   | 18 => .int .i64 0
   | _ => undef) (x := 2) (WI := fun L v_ w' => RG.SX b 99 16 (fun _ _ => mC sh hand fn v2 v3 t fl c ix gn) bm bw n f f x w.heap.size none W1 false false false w') (by kernel_rfl) (by kernel_rfl) rfl (by kernel_rfl) (by kernel_rfl) (RG.SX.start (c := false) (g := false) RW1.out (by simpa using MW1.out) QW1.out ⟨h1, h2, hn3, hn5, hn4⟩ (fun k e => by cases e)) ?does ?fin
 case does =>
  intro i o ho
  have hi : i < 19 := RG.lt_of ho rfl
  match i, hi with
  | 0, _ => cases ho; exact RG.Does.read rfl (fun L v_ w' h => h) (fun L a w' hI hd => ex_move rfl (hI.fx 0 rfl))
  | 1, _ => cases ho; exact RG.Does.read rfl (fun L v_ w' h => h) (fun L a w' hI hd => ex_nil rfl (hI.pure 0 _ _ rfl (hd ⟨0, .data⟩ (by simp) rfl)))
  | 2, _ => cases ho; exact RG.Does.read rfl (fun L v_ w' h => h) (fun L a w' hI hd => ex_field rfl (hI.pure 1 _ _ rfl (hd ⟨1, .data⟩ (by simp) rfl)) (fieldM2 w' _))
  | 3, _ => cases ho; exact RG.Does.read rfl (fun L v_ w' h => h) (fun L a w' hI hd => ex_load rfl (hI.pure 2 _ _ rfl (hd ⟨2, .data⟩ (by simp) rfl)) (aggB w') (hI.world.row.cell (i := 12) (by omega)))
  | 4, _ => cases ho; exact RG.Does.read rfl (fun L v_ w' h => h) (fun L a w' hI hd => ex_move rfl (hI.fx 0 rfl))
  | 5, _ => cases ho; exact RG.Does.read rfl (fun L v_ w' h => h) (fun L a w' hI hd => ex_nil rfl (hI.pure 4 _ _ rfl (hd ⟨4, .data⟩ (by simp) rfl)))
  | 6, _ => cases ho; exact RG.Does.read rfl (fun L v_ w' h => h) (fun L a w' hI hd => ex_field rfl (hI.pure 5 _ _ rfl (hd ⟨5, .data⟩ (by simp) rfl)) (fieldM5 w' _))
  | 7, _ => cases ho; exact RG.Does.read rfl (fun L v_ w' h => h) (fun L a w' hI hd => ex_load rfl (hI.pure 6 _ _ rfl (hd ⟨6, .data⟩ (by simp) rfl)) (aggU w') (hI.world.row.cell (i := 15) (by omega)))
  | 8, _ => cases ho; exact RG.Does.read rfl (fun L v_ w' h => h) (fun L a w' hI hd => ex_object rfl (hI.pure 3 _ _ rfl (hd ⟨3, .data⟩ (by simp) rfl)) (hI.pure 7 _ _ rfl (hd ⟨7, .data⟩ (by simp) rfl)) (fun _ => rfl))
  | 9, _ => cases ho; exact RG.Does.read rfl (fun L v_ w' h => h) (fun L a w' hI hd => ex_move rfl (hI.fx 0 rfl))
  | 10, _ => cases ho; exact RG.Does.read rfl (fun L v_ w' h => h) (fun L a w' hI hd => ex_nil rfl (hI.pure 9 _ _ rfl (hd ⟨9, .data⟩ (by simp) rfl)))
  | 11, _ => cases ho; exact RG.Does.read rfl (fun L v_ w' h => h) (fun L a w' hI hd => ex_field rfl (hI.pure 10 _ _ rfl (hd ⟨10, .data⟩ (by simp) rfl)) (fieldM3 w' _))
  | 12, _ => cases ho; exact RG.Does.read rfl (fun L v_ w' h => h) (fun L a w' hI hd => ex_load rfl (hI.pure 11 _ _ rfl (hd ⟨11, .data⟩ (by simp) rfl)) (aggI w') (hI.world.row.cell (i := 13) (by omega)))
  | 13, _ => cases ho; exact RG.Does.call rfl (fun L a w' hI hd => call2 rfl (hI.pure 8 _ _ rfl (hd ⟨8, .data⟩ (by simp) rfl)) (hI.pure 12 _ _ rfl (hd ⟨12, .data⟩ (by simp) rfl)) rfl (by simp [go_sem])) (fun L v_ w2 hI hL => ((PK.out) w2).mono (by rintro e w3 ⟨rfl, hb⟩; exact ⟨rfl,  (SXq hI hb)⟩))
  | 14, _ => cases ho; exact RG.Does.read rfl (fun L v_ w' h => h) (fun L a w' hI hd => ex_move rfl (hI.pure 13 _ _ rfl (hd ⟨13, .data⟩ (by simp) rfl)))
  | 15, _ => cases ho; exact RG.Does.read rfl (fun L v_ w' h => h) (fun L a w' hI hd => ex_extract rfl (hI.pure 14 _ _ rfl (hd ⟨14, .data⟩ (by simp) rfl)) rfl)
  | 16, _ => cases ho; exact RG.Does.read rfl (fun L v_ w' h => h) (fun L a w' hI hd => ex_extract rfl (hI.pure 14 _ _ rfl (hd ⟨14, .data⟩ (by simp) rfl)) rfl)
  | 17, _ => cases ho; exact RG.Does.read rfl (fun L v_ w' h => h) (fun L a w' hI hd => ex_assign rfl (hI.pure 15 _ _ rfl (hd ⟨15, .data⟩ (by simp) rfl)))
  | 18, _ => cases ho; exact RG.Does.read rfl (fun L v_ w' h => h) (fun L a w' hI hd => ex_assign rfl (hI.pure 16 _ _ rfl (hd ⟨16, .data⟩ (by simp) rfl)))
 case fin =>
  intro L a' w4 hI hall
  have hw := hI.world
  have ea := act_all a' 46 (by rw [hI.sz]; rfl) hI.df
  simp only [List.range, List.range.loop, List.map] at ea
  rw [hI.fx 0 rfl, hI.fx 1 rfl, hI.fx 3 rfl, hI.fx 4 rfl, hI.fx 5 rfl, hI.fx 25 rfl, hI.fx 26 rfl, hI.fx 27 rfl, hI.fx 28 rfl, hI.fx 29 rfl, hI.fx 30 rfl, hI.fx 31 rfl, hI.fx 32 rfl, hI.fx 33 rfl, hI.fx 34 rfl, hI.fx 35 rfl, hI.fx 36 rfl, hI.fx 37 rfl, hI.fx 38 rfl, hI.fx 39 rfl, hI.fx 40 rfl, hI.fx 41 rfl, hI.fx 42 rfl, hI.fx 43 rfl, hI.fx 44 rfl, hI.fx 45 rfl] at ea
  have kv6 := hI.pure 17 6 _ rfl (hall 17 (by decide))
  clear hI hall
  obtain ⟨us, hus⟩ : ∃ us : Nat → Value, ∀ k, a'.eval (.tmp k) = us k := ⟨_, fun _ => rfl⟩
  simp only [hus] at ea kv6
  rw [kv6] at ea
  simp only [show ∀ (ts : Array Value) (ds) (i : Nat), (Act.mk ts ds).eval (.tmp i) = ts.getD i undef from fun _ _ _ => rfl] at ea
  simp at ea
  subst ea
  have Rw4 := hide hw.row
  have Mw4 := hide (show IsMem w4 bm bw n f from by simpa using hw.mem)
  have Qw4 := hide (hw.res rfl)
  have szN := hw.tch.size
  have Tw4 := hide (TW1.out.trans' hw.tch (fun k hk h => by rcases h with h | h | h; exact .inl h; exact .inr h; omega))
  have lb4 : b < w4.heap.size := by omega
  have lr4 : w.heap.size < w4.heap.size := by omega
  clear hw
  go_wp2_with fail
  refine RG.regionB 23 (ks := [(0, 25), (1, 26), (2, 27), (3, 28), (4, 29), (5, 30), (6, 31), (7, 32), (8, 33), (9, 34), (10, 35), (11, 36), (12, 37), (13, 38), (14, 39), (15, 40), (16, 41), (17, 42), (18, 43), (19, 44), (20, 45), (22, 5)]) (vals := fun i => match i with
     | 0 => .pointer (some ⟨b, 0, none⟩)
     | 1 => .pointer (some ⟨b, 0, none⟩)
     | 2 => .pointer (some ⟨b, 0, none⟩)
     | 3 => .pointer (some ⟨bm, 0, none⟩)
     | 4 => .pointer (some ⟨b, 0, none⟩)
     | 5 => .pointer (some ⟨b, 0, none⟩)
     | 6 => .pointer (some ⟨b, 6, none⟩)
     | 7 => sh.val
     | 8 => .pointer (some ⟨b, 0, none⟩)
     | 9 => .pointer (some ⟨b, 0, none⟩)
     | 10 => .pointer (some ⟨b, 14, none⟩)
     | 11 => .int .i64 ix
     | 12 => .int .i64 (headAt sh ix)
     | 13 => .int .u64 hv
     | 14 => x.val
     | 15 => .pointer (some ⟨b, 0, none⟩)
     | 16 => .pointer (some ⟨b, 0, none⟩)
     | 17 => .pointer (some ⟨b, 0, none⟩)
     | 18 => .pointer (some ⟨b, 0, none⟩)
     | 19 => .func (.func 118) #[.pointer (some ⟨b, 0, none⟩)] #[]
     | 20 => .int .i64 0
     | 22 => .int .i64 0
     | _ => undef) (x := 2) (WI := fun L v_ w' => RG.SX b 99 16 (fun c_ g_ => mC sh hand (if g_ = true then (.func (.func 118) #[.pointer (some ⟨b, 0, none⟩)] #[]) else fn) v2 v3 t fl c ix gn) bm bw n f f' x w.heap.size none w4 (L 14) (L 20) (L 21) w') (by kernel_rfl) (by kernel_rfl) rfl (by kernel_rfl) (by kernel_rfl) (RG.SX.start (c := false) (g := false) Rw4.out (by simpa using Mw4.out) Qw4.out ⟨h1, h2, hn3, hn5, hn4⟩ (fun k e => by cases e)) ?does ?fin
  case does =>
   intro i o ho
   have hi : i < 23 := RG.lt_of ho rfl
   match i, hi with
   | 0, _ => cases ho; exact RG.rX rfl rfl (fun L a w' hI hd => ex_move rfl (hI.fx 0 rfl))
   | 1, _ => cases ho; exact RG.rX rfl rfl (fun L a w' hI hd => ex_nil rfl (hI.pure 0 _ _ rfl (hd ⟨0, .data⟩ (by simp) rfl)))
   | 2, _ => cases ho; exact RG.rX rfl rfl (fun L a w' hI hd => ex_field rfl (hI.pure 1 _ _ rfl (hd ⟨1, .data⟩ (by simp) rfl)) (fieldM0 w' _))
   | 3, _ => cases ho; exact RG.rX rfl rfl (fun L a w' hI hd => ex_move rfl (hI.fx 1 rfl))
   | 4, _ => cases ho; exact RG.rX rfl rfl (fun L a w' hI hd => ex_move rfl (hI.fx 0 rfl))
   | 5, _ => cases ho; exact RG.rX rfl rfl (fun L a w' hI hd => ex_nil rfl (hI.pure 4 _ _ rfl (hd ⟨4, .data⟩ (by simp) rfl)))
   | 6, _ => cases ho; exact RG.rX rfl rfl (fun L a w' hI hd => ex_field rfl (hI.pure 5 _ _ rfl (hd ⟨5, .data⟩ (by simp) rfl)) (fieldM1 w' _))
   | 7, _ => cases ho; exact RG.rX rfl rfl (fun L a w' hI hd => ex_load_row rfl (hI.pure 6 _ _ rfl (hd ⟨6, .data⟩ (by simp) rfl)) (shrowAt (o := 6) (sh := sh) (by omega) rfl rfl rfl rfl rfl rfl hI.world.row) HDS.out.1 HDS.out.2 sizeSh)
   | 8, _ => cases ho; exact RG.rX rfl rfl (fun L a w' hI hd => ex_move rfl (hI.fx 0 rfl))
   | 9, _ => cases ho; exact RG.rX rfl rfl (fun L a w' hI hd => ex_nil rfl (hI.pure 8 _ _ rfl (hd ⟨8, .data⟩ (by simp) rfl)))
   | 10, _ => cases ho; exact RG.rX rfl rfl (fun L a w' hI hd => ex_field rfl (hI.pure 9 _ _ rfl (hd ⟨9, .data⟩ (by simp) rfl)) (fieldM4 w' _))
   | 11, _ => cases ho; exact RG.rX rfl rfl (fun L a w' hI hd => ex_load rfl (hI.pure 10 _ _ rfl (hd ⟨10, .data⟩ (by simp) rfl)) (aggI w') (hI.world.row.cell (i := 14) (by omega)))
   | 12, _ => cases ho; exact RG.Does.call rfl (fun L a w' hI hd => call2 rfl (hI.pure 7 _ _ rfl (hd ⟨7, .data⟩ (by simp) rfl)) (hI.pure 11 _ _ rfl (hd ⟨11, .data⟩ (by simp) rfl)) rfl (by simp [go_sem])) (fun L v_ w2 hI hL => ((fun w9 : World => headAt_any H5.out ix w9) w2).mono (by rintro e w3 ⟨rfl, hb⟩; exact ⟨rfl, RG.SX.skip (by decide) (by decide) (by decide)  (SXq hI hb)⟩))
   | 13, _ => cases ho; exact RG.rX rfl rfl (fun L a w' hI hd => ex_move rfl (hI.fx 6 rfl))
   | 14, _ => cases ho; exact RG.Does.call rfl (fun L a w' hI hd => call4 rfl (hI.pure 2 _ _ rfl (hd ⟨2, .data⟩ (by simp) rfl)) (hI.pure 3 _ _ rfl (hd ⟨3, .data⟩ (by simp) rfl)) (hI.pure 12 _ _ rfl (hd ⟨12, .data⟩ (by simp) rfl)) (hI.pure 13 _ _ rfl (hd ⟨13, .data⟩ (by simp) rfl)) rfl (by simp [go_sem])) (fun L v_ w2 hI hL => by have h3 := hI; rw [hL] at h3; refine (row_act h3.row h2 (store_any (show World.cell? w2 ⟨b, 0, none⟩ = some (.int .i64 hand) from h3.row.cell (i := 0) (by omega)) h3.row.lt (by simpa using h3.mem) HW.out HX.out HF.out)).mono ?_; rintro e w3 ⟨rfl, r3, m3, t3⟩; refine ⟨rfl, ?_⟩; rw [upd_same, upd_other _ _ (show 20 ≠ 14 by decide), upd_other _ _ (show 21 ≠ 14 by decide)]; exact h3.turn (c' := true) (r3.congr (fun i hi => (fun _ _ => rfl) i hi)) (by simpa using m3) t3 (fun k e => e))
   | 15, _ => cases ho; exact RG.rX rfl rfl (fun L a w' hI hd => ex_move rfl (hI.fx 0 rfl))
   | 16, _ => cases ho; exact RG.rX rfl rfl (fun L a w' hI hd => ex_nil rfl (hI.pure 15 _ _ rfl (hd ⟨15, .data⟩ (by simp) rfl)))
   | 17, _ => cases ho; exact RG.rX rfl rfl (fun L a w' hI hd => ex_field rfl (hI.pure 16 _ _ rfl (hd ⟨16, .data⟩ (by simp) rfl)) (fieldM0 w' _))
   | 18, _ => cases ho; exact RG.rX rfl rfl (fun L a w' hI hd => ex_move rfl (hI.fx 0 rfl))
   | 19, _ => cases ho; exact RG.rX rfl rfl (fun L a w' hI hd => ex_func rfl (hI.pure 18 _ _ rfl (hd ⟨18, .data⟩ (by simp) rfl)))
   | 20, _ => cases ho; exact RG.Does.call rfl (fun L a w' hI hd => call2 rfl (hI.pure 17 _ _ rfl (hd ⟨17, .data⟩ (by simp) rfl)) (hI.pure 19 _ _ rfl (hd ⟨19, .data⟩ (by simp) rfl)) rfl (by simp [go_sem])) (fun L v_ w2 hI hL => by have h3 := hI; rw [hL] at h3; refine (goOn_any 118 h3.row (by omega)).mono ?_; rintro e w3 ⟨rfl, r3, t3⟩; refine ⟨rfl, ?_⟩; rw [upd_same, upd_other _ _ (show 14 ≠ 20 by decide), upd_other _ _ (show 21 ≠ 20 by decide)]; exact h3.turn (g' := true) (r3.congr (fun i hi => m_fn _ _ _ _ _ _ _ _ _ _ _ i hi)) ⟨h3.mem.head.of_block (t3.block _ h3.mem.head.lt (fun e => h1 e.symm)), h3.mem.row.of_block (t3.block _ h3.mem.row.lt (fun e => h2 e.symm)), h3.mem.most, h3.mem.word⟩ t3 (fun k e => .inl e))
   | 21, _ => cases ho; exact RG.Does.put (ls := x.cells) rfl rfl rfl size46 (by simp [Stp.cells, Value.oneCell']) (fun L a w' hI hL hdd => ⟨(hI.pure 14 _ _ rfl (hdd ⟨14, .data⟩ (by simp) rfl)), by obtain ⟨e2, e3⟩ := RG.SX.put hI.world; exact ⟨w.heap.size, 0, hI.fx 4 rfl, e2, by show RG.SX b 99 16 (fun c_ g_ => mC sh hand (if g_ = true then (.func (.func 118) #[.pointer (some ⟨b, 0, none⟩)] #[]) else fn) v2 v3 t fl c ix gn) bm bw n f f' x w.heap.size none w4 (upd L 21 true 14) (upd L 21 true 20) (upd L 21 true 21) _; rw [upd_same, upd_other _ _ (show 14 ≠ 21 by decide), upd_other _ _ (show 20 ≠ 21 by decide)]; exact e3⟩⟩)
   | 22, _ => cases ho; exact RG.rX rfl rfl (fun L a w' hI hd => ex_assign rfl (hI.pure 20 _ _ rfl (hd ⟨20, .data⟩ (by simp) rfl)))
  case fin =>
   intro L a' w' hI hall
   rename_i K2 hK2
   refine hK2 _ _ ?_
   have hw := hI.world
   simp only [hall 14 (by decide), hall 20 (by decide), hall 21 (by decide)] at hw
   have rE := hw.sto rfl
   have pE : a'.eval (.tmp 4) = .pointer (some ⟨w.heap.size, 0, none⟩) := hI.fx 4 rfl
   have pe : a'.eval (.tmp 5) = .int .i64 0 := hI.pure 22 5 _ rfl (hall 22 (by decide))
   have hdf : a'.defers = [] := hI.df
   have hS := run_loadVar_mid (P := Tryz.prog) w' w.heap.size 0 _ _ dS rE HD.out.1 HD.out.2 size46
   have hres := results_ct (Q := Tryz.prog) (fn := Tryz.f100) (tmps := a'.tmps) (t := 4) (t' := 5) (W := w') (by rfl) pE hS
   rw [show a'.tmps.getD 5 undef = .int .i64 0 from pe] at hres
   go_wp2
   exact bodyPost_ret (v := .tuple #[x.val, .int .i64 0]) hres hdf ⟨rfl, hw.row, by simpa using hw.mem, Tw4.out.trans' hw.tch (fun k hk h => by rcases h with h | h | h; exact .inl h; exact .inr h; omega)⟩
end Rom
end
section
namespace Rom
open Hp
theorem glook_any {w : World} {b bm bw n : Nat} {f f' : Nat → Int} {x : Stp} {sh : Shp} {hand : Int} {fn v2 v3 : Value} {t : Ans} {ix sl gn : Int} (h_ : w.rowIs b 103 15 (gC sh hand fn v2 v3 t ix sl gn)) (hm : IsMem w bm bw n f) (h1 : b ≠ bm) (h2 : b ≠ bw) (h5 : Shape.R5 sh.a sh.b sh.c sh.d sh.e) (hxh : 0 ≤ x.had ∧ x.had ≤ 18446744073709551615)
  (hx : stepOf n f ⟨hand, 1, headAt sh ix, 0, 0, true⟩ = x) (hf' : wordsOf n f ⟨hand, 1, headAt sh ix, 0, 0, true⟩ = f') :
  Calls Tryz.prog 68 #[.pointer (some ⟨b, 0, none⟩), .pointer (some ⟨bm, 0, none⟩)] w fun e w' => e = .returned (.tuple #[x.val, .int .i64 0]) ∧
   w'.rowIs b 103 15 (gC sh hand (.func (.func 103) #[.pointer (some ⟨b, 0, none⟩)] #[]) v2 v3 t ix sl (x.had / 4294967296)) ∧ IsMem w' bm bw n f' ∧ Touch w w' (fun k => k = b ∨ k = bw) := by
 have hl := h_.lt
 have lw := hm.row.lt
 have lm := hm.head.lt
 have hn3 : w.heap.size ≠ b := by omega
 have hn4 : w.heap.size ≠ bw := by omega
 have hn5 : w.heap.size ≠ bm := by omega
 obtain ⟨W1, hW1⟩ : ∃ W1, w.alloc (.cells #[.int .i64 0, .int .i64 0, .int .i64 0, .int .u64 0, .int .u64 0, .bool false] 69) = W1 := ⟨_, rfl⟩
 have R := hide (show W1.rowIs b 103 15 (gC sh hand fn v2 v3 t ix sl gn) from by rw [← hW1]; exact h_.alloc _)
 have M := hide (show IsMem W1 bm bw n f from by rw [← hW1]; exact hm.alloc _)
 have RZ := hide (show W1.rowIs w.heap.size 69 6 zcell from by rw [← hW1]; exact row0 w)
 have T0 := hide (show Touch w W1 (fun k => k = b ∨ k = bw) from by rw [← hW1]; exact (Touch.refl w _).alloc _)
 have sz : W1.heap.size = w.heap.size + 1 := by rw [← hW1]; simp
 have lW1 : b < W1.heap.size := by omega
 obtain ⟨dS, hdS1, hdS2⟩ := row46
 have HD := hide (And.intro hdS1 hdS2)
 obtain ⟨dG, hdG1, hdG2⟩ := rowSh
 have HDS := hide (And.intro hdG1 hdG2)
 have HX := hide hx
 have HF := hide hf'
 have HW : Hid (0 ≤ (⟨hand, 1, headAt sh ix, 0, 0, true⟩ : Stp).put ∧ (⟨hand, 1, headAt sh ix, 0, 0, true⟩ : Stp).put ≤ 18446744073709551615) := ⟨by show (0 : Int) ≤ 0; omega, by show (0 : Int) ≤ 18446744073709551615; omega⟩
 have IX := hide (fun w1 : World => gen_any x.had hxh.1 (by omega) w1)
 have H5 := hide h5
 clear hm h_ hx hf' hdS1 hdS2 hdG1 hdG2 hxh h5
 go_enter Tryz.func68, Tryz.ntmps68
 go_wp2_with fail
 clear hW1
 refine RG.regionB 16 (ks := [(0, 7), (1, 8), (2, 9), (3, 10), (4, 11), (5, 12), (6, 13), (7, 14), (8, 15), (9, 16), (10, 17), (11, 18), (12, 19), (13, 20)]) (vals := fun i => match i with
   | 0 => .pointer (some ⟨b, 0, none⟩)
   | 1 => .pointer (some ⟨b, 0, none⟩)
   | 2 => .pointer (some ⟨b, 0, none⟩)
   | 3 => .pointer (some ⟨bm, 0, none⟩)
   | 4 => .pointer (some ⟨b, 0, none⟩)
   | 5 => .pointer (some ⟨b, 0, none⟩)
   | 6 => .pointer (some ⟨b, 6, none⟩)
   | 7 => sh.val
   | 8 => .pointer (some ⟨b, 0, none⟩)
   | 9 => .pointer (some ⟨b, 0, none⟩)
   | 10 => .pointer (some ⟨b, 12, none⟩)
   | 11 => .int .i64 ix
   | 12 => .int .i64 (headAt sh ix)
   | 13 => x.val
   | _ => undef) (x := 6) (WI := fun L v_ w' => RG.SW b 103 15 (gC sh hand fn v2 v3 t ix sl gn) bm bw n f f' x w.heap.size W1 (L 13) (L 14) (L 15) v_ w') (by kernel_rfl) (by kernel_rfl) rfl (by kernel_rfl) (by kernel_rfl) (RG.SW.start R.out M.out RZ.out) ?does ?fin
 case does =>
  intro i o ho
  have hi : i < 16 := RG.lt_of ho rfl
  match i, hi with
  | 0, _ => cases ho; exact RG.rW rfl rfl (fun L a w' hI hd => ex_move rfl (hI.fx 0 rfl))
  | 1, _ => cases ho; exact RG.rW rfl rfl (fun L a w' hI hd => ex_nil rfl (hI.pure 0 _ _ rfl (hd ⟨0, .data⟩ (by simp) rfl)))
  | 2, _ => cases ho; exact RG.rW rfl rfl (fun L a w' hI hd => ex_field rfl (hI.pure 1 _ _ rfl (hd ⟨1, .data⟩ (by simp) rfl)) (fieldG0 w' _))
  | 3, _ => cases ho; exact RG.rW rfl rfl (fun L a w' hI hd => ex_move rfl (hI.fx 1 rfl))
  | 4, _ => cases ho; exact RG.rW rfl rfl (fun L a w' hI hd => ex_move rfl (hI.fx 0 rfl))
  | 5, _ => cases ho; exact RG.rW rfl rfl (fun L a w' hI hd => ex_nil rfl (hI.pure 4 _ _ rfl (hd ⟨4, .data⟩ (by simp) rfl)))
  | 6, _ => cases ho; exact RG.rW rfl rfl (fun L a w' hI hd => ex_field rfl (hI.pure 5 _ _ rfl (hd ⟨5, .data⟩ (by simp) rfl)) (fieldG1 w' _))
  | 7, _ => cases ho; exact RG.rW rfl rfl (fun L a w' hI hd => ex_load_row rfl (hI.pure 6 _ _ rfl (hd ⟨6, .data⟩ (by simp) rfl)) (shrowAt (o := 6) (sh := sh) (by omega) rfl rfl rfl rfl rfl rfl hI.world.row) HDS.out.1 HDS.out.2 sizeSh)
  | 8, _ => cases ho; exact RG.rW rfl rfl (fun L a w' hI hd => ex_move rfl (hI.fx 0 rfl))
  | 9, _ => cases ho; exact RG.rW rfl rfl (fun L a w' hI hd => ex_nil rfl (hI.pure 8 _ _ rfl (hd ⟨8, .data⟩ (by simp) rfl)))
  | 10, _ => cases ho; exact RG.rW rfl rfl (fun L a w' hI hd => ex_field rfl (hI.pure 9 _ _ rfl (hd ⟨9, .data⟩ (by simp) rfl)) (fieldG2 w' _))
  | 11, _ => cases ho; exact RG.rW rfl rfl (fun L a w' hI hd => ex_load rfl (hI.pure 10 _ _ rfl (hd ⟨10, .data⟩ (by simp) rfl)) (aggI w') (hI.world.row.cell (i := 12) (by omega)))
  | 12, _ => cases ho; exact RG.Does.call rfl (fun L a w' hI hd => call2 rfl (hI.pure 7 _ _ rfl (hd ⟨7, .data⟩ (by simp) rfl)) (hI.pure 11 _ _ rfl (hd ⟨11, .data⟩ (by simp) rfl)) rfl (by simp [go_sem])) (fun L v_ w2 hI hL => ((fun w9 : World => headAt_any H5.out ix w9) w2).mono (by rintro e w3 ⟨rfl, hb⟩; exact ⟨rfl, RG.SW.skip (by decide) (by decide) (by decide)  (SWq hI hb)⟩))
  | 13, _ => cases ho; exact RG.Does.call rfl (fun L a w' hI hd => call3 rfl (hI.pure 2 _ _ rfl (hd ⟨2, .data⟩ (by simp) rfl)) (hI.pure 3 _ _ rfl (hd ⟨3, .data⟩ (by simp) rfl)) (hI.pure 12 _ _ rfl (hd ⟨12, .data⟩ (by simp) rfl)) rfl (by simp [go_sem])) (SWcalls h2 hn4 (by decide) (by decide) (fun w2 R2 M2 => load_any (R2.cell (i := 0) (by omega)) R2.lt M2 HW.out HX.out HF.out))
  | 14, _ => cases ho; exact RG.Does.make (u := fun w' => .pointer (some ⟨w'.heap.size, 0, none⟩)) rfl rfl (fun ev w' => alloc46 rfl) (fun L v_ w' h hL => by have := RG.SW.make h hL; rw [← upd_same L 14 true] at this; simpa only [upd_other _ _ (show 13 ≠ 14 by decide), upd_other _ _ (show 15 ≠ 14 by decide)] using this)
  | 15, _ => cases ho; exact RG.Does.put (ls := x.cells) rfl rfl rfl size46 (by simp [Stp.cells, Value.oneCell']) (fun L a w' hI hL hd => ⟨(hI.pure 13 _ _ rfl (hd ⟨13, .data⟩ (by simp) rfl)), by obtain ⟨q, e1, e2, e3⟩ := RG.SW.put hI.world (hd ⟨13, .data⟩ (by simp) rfl) (hd ⟨14, .data⟩ (by simp) rfl) hL; exact ⟨q, 0, e1, e2, by rw [← upd_same L 15 true] at e3; simpa only [upd_other _ _ (show 13 ≠ 15 by decide), upd_other _ _ (show 14 ≠ 15 by decide)] using e3⟩⟩)
 case fin =>
  intro L a' w1 hI hall
  have hw := hI.world
  simp only [hall 13 (by decide), hall 14 (by decide), hall 15 (by decide), if_true] at hw
  obtain ⟨q, hq, hq1, hq2, _, hr⟩ := hw.own rfl
  replace hr := hr rfl
  have ea := act_all a' 34 (by rw [hI.sz]; rfl) hI.df
  simp only [List.range, List.range.loop, List.map] at ea
  rw [hI.fx 0 rfl, hI.fx 1 rfl, hI.fx 2 rfl, hI.fx 3 rfl, hI.fx 4 rfl, hI.fx 5 rfl, hI.fx 21 rfl, hI.fx 22 rfl, hI.fx 23 rfl, hI.fx 24 rfl, hI.fx 25 rfl, hI.fx 26 rfl, hI.fx 27 rfl, hI.fx 28 rfl, hI.fx 29 rfl, hI.fx 30 rfl, hI.fx 31 rfl, hI.fx 32 rfl, hI.fx 33 rfl, hq] at ea
  clear hI hall
  obtain ⟨us, hus⟩ : ∃ us : Nat → Value, ∀ k, a'.eval (.tmp k) = us k := ⟨_, fun _ => rfl⟩
  simp only [hus] at ea
  simp only [show ∀ (ts : Array Value) (ds) (i : Nat), (Act.mk ts ds).eval (.tmp i) = ts.getD i undef from fun _ _ _ => rfl] at ea
  simp at ea
  subst ea
  have M1 := hide (show IsMem w1 bm bw n f' from by simpa using hw.mem)
  have R1 := hide hw.row
  have RR := hide hw.res
  have T1 := hide (T0.out.trans' hw.tch (fun k _ h => .inr h))
  have RQ := hide hr
  have hqb : q ≠ b := by omega
  have hqr : q ≠ w.heap.size := by omega
  have hqm : q ≠ bm ∧ q ≠ bw := by omega
  have lw1 := hw.tch.size
  have l1 : b < w1.heap.size := by omega
  have l2 : w.heap.size < w1.heap.size := by omega
  have l3 : q < w1.heap.size := by omega
  clear hw hr hq
  obtain ⟨s0, s1, s2, s3, s4, s5⟩ := stp6 RQ.out
  have Rw1 := R1
  have Mw1 := M1
  have Qw1 := RR
  have Sw1 := RQ
  have Tw1 := T1
  have db := R1.out.cell (i := 14) (by omega)
  have dfb := R1.out.frozen 14
  obtain ⟨V, hV⟩ : ∃ W', w1.setCell ⟨b, 14, none⟩ (.int .u64 (x.had / 4294967296)) = W' := ⟨_, rfl⟩
  have tV : Touch w1 V (fun k => k = b) := by
   rw [← hV]
   exact Touch.trans' (S' := fun k => k = b) (⟨rfl, rfl, rfl, Nat.le_refl _, fun _ _ _ => rfl⟩ : Touch w1 w1 (fun k => k = b)) ((Touch.refl w1 _).setCell (S := fun k => k = b) ⟨b, 14, none⟩ (.inl rfl) _) (fun k _ h => h)
  have RV := hide (show V.rowIs b 103 15 (gC sh hand fn v2 v3 t ix sl (x.had / 4294967296)) from by
   rw [← hV]
   exact World.rowIs.congr (World.rowIs.set (show World.rowIs w1 b 103 15 _ from Rw1.out.of_block rfl) 14 _) (fun i hi => g_gn _ _ _ _ _ _ _ _ _ _ i hi))
  have QV := hide (Qw1.out.of_block (tV.block _ (by omega) (by omega)))
  have MV := hide (show IsMem V bm bw n f' from ⟨Mw1.out.head.of_block (tV.block _ Mw1.out.head.lt (by omega)), Mw1.out.row.of_block (tV.block _ Mw1.out.row.lt (by omega)), Mw1.out.most, Mw1.out.word⟩)
  have TV := hide (show Touch w V (fun k => k = b ∨ k = bw) from Tw1.out.trans' tV (fun k _ h => .inl h))
  have SV := hide (rangeAt_block Sw1.out (tV.block q (by omega) (by omega)))
  have szV : V.heap.size = w1.heap.size := by rw [← hV] <;> first | (simp; done) | rfl | (simp; rfl)
  clear tV
  go_wp2_with (go_at_call 99; refine (IX.out _).mono ?_; rintro e wq ⟨rfl, hwq⟩; obtain rfl := hwq.symm)
  clear hV s0 s1 s2 s3 s4 s5 db dfb
  refine RG.regionB 9 (ks := [(0, 27), (1, 28), (2, 29), (3, 30), (4, 31), (5, 32), (6, 33), (8, 5)]) (vals := fun i => match i with
     | 0 => x.val
     | 1 => .pointer (some ⟨b, 0, none⟩)
     | 2 => .pointer (some ⟨b, 0, none⟩)
     | 3 => .pointer (some ⟨b, 0, none⟩)
     | 4 => .pointer (some ⟨b, 0, none⟩)
     | 5 => .func (.func 103) #[.pointer (some ⟨b, 0, none⟩)] #[]
     | 6 => .int .i64 0
     | 8 => .int .i64 0
     | _ => undef) (x := 2) (WI := fun L v_ w' => RG.SX b 103 15 (fun c_ g_ => gC sh hand (if g_ = true then (.func (.func 103) #[.pointer (some ⟨b, 0, none⟩)] #[]) else fn) v2 v3 t ix sl (x.had / 4294967296)) bm bw n f' f' x w.heap.size (some q) V true (L 6) (L 7) w') (by kernel_rfl) (by kernel_rfl) rfl (by kernel_rfl) (by kernel_rfl) (RG.SX.start (c := true) (g := false) RV.out (by simpa using MV.out) QV.out ⟨h1, h2, hn3, hn5, hn4⟩ (fun k e => by cases e; exact ⟨SV.out, by omega, hqb, hqm.2, hqr⟩)) ?does ?fin
  case does =>
   intro i o ho
   have hi : i < 9 := RG.lt_of ho rfl
   match i, hi with
   | 0, _ => cases ho; exact RG.rX2 rfl rfl (fun L a w' hI hd => ex_load_row rfl (hI.fx 6 rfl) (hI.world.var _ rfl).1 HD.out.1 HD.out.2 size46)
   | 1, _ => cases ho; exact RG.rX2 rfl rfl (fun L a w' hI hd => ex_move rfl (hI.fx 0 rfl))
   | 2, _ => cases ho; exact RG.rX2 rfl rfl (fun L a w' hI hd => ex_nil rfl (hI.pure 1 _ _ rfl (hd ⟨1, .data⟩ (by simp) rfl)))
   | 3, _ => cases ho; exact RG.rX2 rfl rfl (fun L a w' hI hd => ex_field rfl (hI.pure 2 _ _ rfl (hd ⟨2, .data⟩ (by simp) rfl)) (fieldG0 w' _))
   | 4, _ => cases ho; exact RG.rX2 rfl rfl (fun L a w' hI hd => ex_move rfl (hI.fx 0 rfl))
   | 5, _ => cases ho; exact RG.rX2 rfl rfl (fun L a w' hI hd => ex_func rfl (hI.pure 4 _ _ rfl (hd ⟨4, .data⟩ (by simp) rfl)))
   | 6, _ => cases ho; exact RG.Does.call rfl (fun L a w' hI hd => call2 rfl (hI.pure 3 _ _ rfl (hd ⟨3, .data⟩ (by simp) rfl)) (hI.pure 5 _ _ rfl (hd ⟨5, .data⟩ (by simp) rfl)) rfl (by simp [go_sem])) (fun L v_ w2 hI hL => by have h3 := hI; rw [hL] at h3; refine (goOn_any 103 h3.row (by omega)).mono ?_; rintro e w3 ⟨rfl, r3, t3⟩; refine ⟨rfl, ?_⟩; rw [upd_same, upd_other _ _ (show 7 ≠ 6 by decide)]; exact h3.turn (g' := true) (r3.congr (fun i hi => g_fn _ _ _ _ _ _ _ _ _ _ i hi)) ⟨h3.mem.head.of_block (t3.block _ h3.mem.head.lt (fun e => h1 e.symm)), h3.mem.row.of_block (t3.block _ h3.mem.row.lt (fun e => h2 e.symm)), h3.mem.most, h3.mem.word⟩ t3 (fun k e => .inl e))
   | 7, _ => cases ho; exact RG.Does.put (ls := x.cells) rfl rfl rfl size46 (by simp [Stp.cells, Value.oneCell']) (fun L a w' hI hL hdd => ⟨(hI.pure 0 _ _ rfl (hdd ⟨0, .data⟩ (by simp) rfl)), by obtain ⟨e2, e3⟩ := RG.SX.put hI.world; exact ⟨w.heap.size, 0, hI.fx 4 rfl, e2, by show RG.SX b 103 15 (fun c_ g_ => gC sh hand (if g_ = true then (.func (.func 103) #[.pointer (some ⟨b, 0, none⟩)] #[]) else fn) v2 v3 t ix sl (x.had / 4294967296)) bm bw n f' f' x w.heap.size (some q) V true (upd L 7 true 6) (upd L 7 true 7) _; rw [upd_same, upd_other _ _ (show 6 ≠ 7 by decide)]; exact e3⟩⟩)
   | 8, _ => cases ho; exact RG.rX2 rfl rfl (fun L a w' hI hd => ex_assign rfl (hI.pure 6 _ _ rfl (hd ⟨6, .data⟩ (by simp) rfl)))
  case fin =>
   intro L a' w' hI hall
   rename_i K2 hK2
   refine hK2 _ _ ?_
   have hw := hI.world
   simp only [hall 6 (by decide), hall 7 (by decide)] at hw
   have rE := hw.sto rfl
   have pE : a'.eval (.tmp 4) = .pointer (some ⟨w.heap.size, 0, none⟩) := hI.fx 4 rfl
   have pe : a'.eval (.tmp 5) = .int .i64 0 := hI.pure 8 5 _ rfl (hall 8 (by decide))
   have hdf : a'.defers = [] := hI.df
   have hS := run_loadVar_mid (P := Tryz.prog) w' w.heap.size 0 _ _ dS rE HD.out.1 HD.out.2 size46
   have hres := results_ct (Q := Tryz.prog) (fn := Tryz.f68) (tmps := a'.tmps) (t := 4) (t' := 5) (W := w') (by rfl) pE hS
   rw [show a'.tmps.getD 5 undef = .int .i64 0 from pe] at hres
   go_wp2
   exact bodyPost_ret (v := .tuple #[x.val, .int .i64 0]) hres hdf ⟨rfl, hw.row, by simpa using hw.mem, TV.out.trans' hw.tch (fun k hk h => by rcases h with h | h | h; exact .inl h; exact .inr h; omega)⟩
theorem gcount_any {w : World} {b bm bw n : Nat} {f f' : Nat → Int} {x : Stp} {sh : Shp} {hand : Int} {fn v2 v3 : Value} {t : Ans} {ix sl gn : Int} (h_ : w.rowIs b 103 15 (gC sh hand fn v2 v3 t ix sl gn)) (hm : IsMem w bm bw n f) (h1 : b ≠ bm) (h2 : b ≠ bw) (hi : ix ≤ 9223372036854775807)
  (hx : stepOf n f ⟨hand, 4, 5, 0, 1, true⟩ = x) (hf' : wordsOf n f ⟨hand, 4, 5, 0, 1, true⟩ = f') :
  Calls Tryz.prog 121 #[.pointer (some ⟨b, 0, none⟩), .pointer (some ⟨bm, 0, none⟩)] w fun e w' => e = .returned (.tuple #[x.val, .int .i64 1]) ∧
   w'.rowIs b 103 15 (gC sh hand fn v2 v3 ⟨true, mx0 ix⟩ ix sl gn) ∧ IsMem w' bm bw n f' ∧ Touch w w' (fun k => k = b ∨ k = bw) := by
 have hl := h_.lt
 have lw := hm.row.lt
 have lm := hm.head.lt
 have hn3 : w.heap.size ≠ b := by omega
 have hn4 : w.heap.size ≠ bw := by omega
 have hn5 : w.heap.size ≠ bm := by omega
 obtain ⟨W1, hW1⟩ : ∃ W1, w.alloc (.cells #[.int .i64 0, .int .i64 0, .int .i64 0, .int .u64 0, .int .u64 0, .bool false] 69) = W1 := ⟨_, rfl⟩
 have R := hide (show W1.rowIs b 103 15 (gC sh hand fn v2 v3 t ix sl gn) from by rw [← hW1]; exact h_.alloc _)
 have M := hide (show IsMem W1 bm bw n f from by rw [← hW1]; exact hm.alloc _)
 have RZ := hide (show W1.rowIs w.heap.size 69 6 zcell from by rw [← hW1]; exact row0 w)
 have T0 := hide (show Touch w W1 (fun k => k = b ∨ k = bw) from by rw [← hW1]; exact (Touch.refl w _).alloc _)
 have sz : W1.heap.size = w.heap.size + 1 := by rw [← hW1]; simp
 have lW1 : b < W1.heap.size := by omega
 obtain ⟨dS, hdS1, hdS2⟩ := row46
 have HD := hide (And.intro hdS1 hdS2)
 obtain ⟨dG, hdG1, hdG2⟩ := rowSh
 have HDS := hide (And.intro hdG1 hdG2)
 have HX := hide hx
 have HF := hide hf'
 have HW : Hid (0 ≤ (⟨hand, 4, 5, 0, 1, true⟩ : Stp).put ∧ (⟨hand, 4, 5, 0, 1, true⟩ : Stp).put ≤ 18446744073709551615) := ⟨by show (0 : Int) ≤ 1; omega, by show (1 : Int) ≤ 18446744073709551615; omega⟩
 have HI := hide (mx0_bd ix hi)
 clear hm h_ hx hf' hdS1 hdS2 hdG1 hdG2 hi
 go_enter Tryz.func121, Tryz.ntmps121
 go_wp2_with fail
 clear hW1
 have RW1 := R
 have MW1 := M
 have QW1 := RZ
 have TW1 := T0
 refine RG.regionB 17 (ks := [(0, 6), (1, 7), (2, 8), (3, 9), (4, 10), (5, 11), (6, 12), (7, 13), (8, 14), (9, 15), (10, 16), (11, 17), (12, 18), (13, 19), (14, 20), (16, 5)]) (vals := fun i => match i with
    | 0 => .pointer (some ⟨b, 0, none⟩)
    | 1 => .pointer (some ⟨b, 0, none⟩)
    | 2 => .pointer (some ⟨b, 0, none⟩)
    | 3 => .pointer (some ⟨bm, 0, none⟩)
    | 4 => x.val
    | 5 => .pointer (some ⟨b, 0, none⟩)
    | 6 => .pointer (some ⟨b, 0, none⟩)
    | 7 => .pointer (some ⟨b, 0, none⟩)
    | 8 => .pointer (some ⟨b, 0, none⟩)
    | 9 => .pointer (some ⟨b, 0, none⟩)
    | 10 => .pointer (some ⟨b, 12, none⟩)
    | 11 => .int .i64 ix
    | 12 => .int .i64 (mx0 ix)
    | 13 => .int .u64 (mx0 ix)
    | 14 => .int .i64 1
    | 16 => .int .i64 1
    | _ => undef) (x := 2) (WI := fun L v_ w' => RG.SX b 103 15 (fun c_ g_ => gC sh hand fn v2 v3 (if g_ = true then ⟨true, mx0 ix⟩ else t) ix sl gn) bm bw n f f' x w.heap.size none W1 (L 4) (L 14) (L 15) w') (by kernel_rfl) (by kernel_rfl) rfl (by kernel_rfl) (by kernel_rfl) (RG.SX.start (c := false) (g := false) RW1.out (by simpa using MW1.out) QW1.out ⟨h1, h2, hn3, hn5, hn4⟩ (fun k e => by cases e)) ?does ?fin
 case does =>
  intro i o ho
  have hi : i < 17 := RG.lt_of ho rfl
  match i, hi with
  | 0, _ => cases ho; exact RG.rX rfl rfl (fun L a w' hI hd => ex_move rfl (hI.fx 0 rfl))
  | 1, _ => cases ho; exact RG.rX rfl rfl (fun L a w' hI hd => ex_nil rfl (hI.pure 0 _ _ rfl (hd ⟨0, .data⟩ (by simp) rfl)))
  | 2, _ => cases ho; exact RG.rX rfl rfl (fun L a w' hI hd => ex_field rfl (hI.pure 1 _ _ rfl (hd ⟨1, .data⟩ (by simp) rfl)) (fieldG0 w' _))
  | 3, _ => cases ho; exact RG.rX rfl rfl (fun L a w' hI hd => ex_move rfl (hI.fx 1 rfl))
  | 4, _ => cases ho; exact RG.Does.call rfl (fun L a w' hI hd => call4 rfl (hI.pure 2 _ _ rfl (hd ⟨2, .data⟩ (by simp) rfl)) (hI.pure 3 _ _ rfl (hd ⟨3, .data⟩ (by simp) rfl)) rfl rfl rfl (by simp [go_sem])) (fun L v_ w2 hI hL => by have h3 := hI; rw [hL] at h3; refine (row_act h3.row h2 (add_any (show World.cell? w2 ⟨b, 0, none⟩ = some (.int .i64 hand) from h3.row.cell (i := 0) (by omega)) h3.row.lt (by simpa using h3.mem) HW.out HX.out HF.out)).mono ?_; rintro e w3 ⟨rfl, r3, m3, t3⟩; refine ⟨rfl, ?_⟩; rw [upd_same, upd_other _ _ (show 14 ≠ 4 by decide), upd_other _ _ (show 15 ≠ 4 by decide)]; exact h3.turn (c' := true) (r3.congr (fun i hi => (fun _ _ => rfl) i hi)) (by simpa using m3) t3 (fun k e => e))
  | 5, _ => cases ho; exact RG.rX rfl rfl (fun L a w' hI hd => ex_move rfl (hI.fx 0 rfl))
  | 6, _ => cases ho; exact RG.rX rfl rfl (fun L a w' hI hd => ex_nil rfl (hI.pure 5 _ _ rfl (hd ⟨5, .data⟩ (by simp) rfl)))
  | 7, _ => cases ho; exact RG.rX rfl rfl (fun L a w' hI hd => ex_field rfl (hI.pure 6 _ _ rfl (hd ⟨6, .data⟩ (by simp) rfl)) (fieldG0 w' _))
  | 8, _ => cases ho; exact RG.rX rfl rfl (fun L a w' hI hd => ex_move rfl (hI.fx 0 rfl))
  | 9, _ => cases ho; exact RG.rX rfl rfl (fun L a w' hI hd => ex_nil rfl (hI.pure 8 _ _ rfl (hd ⟨8, .data⟩ (by simp) rfl)))
  | 10, _ => cases ho; exact RG.rX rfl rfl (fun L a w' hI hd => ex_field rfl (hI.pure 9 _ _ rfl (hd ⟨9, .data⟩ (by simp) rfl)) (fieldG2 w' _))
  | 11, _ => cases ho; exact RG.rX rfl rfl (fun L a w' hI hd => ex_load rfl (hI.pure 10 _ _ rfl (hd ⟨10, .data⟩ (by simp) rfl)) (aggI w') (hI.world.row.cell (i := 12) (by omega)))
  | 12, _ => cases ho; exact RG.rX rfl rfl (fun L a w' hI hd => ex_max0 rfl (hI.pure 11 _ _ rfl (hd ⟨11, .data⟩ (by simp) rfl)) rfl)
  | 13, _ => cases ho; exact RG.rX rfl rfl (fun L a w' hI hd => ex_convu rfl (hI.pure 12 _ _ rfl (hd ⟨12, .data⟩ (by simp) rfl)) (by have := HI.out; omega) (by have := HI.out; omega))
  | 14, _ => cases ho; exact RG.Does.call rfl (fun L a w' hI hd => call2 rfl (hI.pure 7 _ _ rfl (hd ⟨7, .data⟩ (by simp) rfl)) (hI.pure 13 _ _ rfl (hd ⟨13, .data⟩ (by simp) rfl)) rfl (by simp [go_sem])) (fun L v_ w2 hI hL => by have h3 := hI; rw [hL] at h3; refine (end_any (by have := HI.out; omega) h3.row (by omega)).mono ?_; rintro e w3 ⟨rfl, r3, t3⟩; refine ⟨rfl, ?_⟩; rw [upd_same, upd_other _ _ (show 4 ≠ 14 by decide), upd_other _ _ (show 15 ≠ 14 by decide)]; exact h3.turn (g' := true) (r3.congr (fun i hi => g_told _ _ _ _ _ _ _ _ _ _ i hi)) ⟨h3.mem.head.of_block (t3.block _ h3.mem.head.lt (fun e => h1 e.symm)), h3.mem.row.of_block (t3.block _ h3.mem.row.lt (fun e => h2 e.symm)), h3.mem.most, h3.mem.word⟩ t3 (fun k e => .inl e))
  | 15, _ => cases ho; exact RG.Does.put (ls := x.cells) rfl rfl rfl size46 (by simp [Stp.cells, Value.oneCell']) (fun L a w' hI hL hdd => ⟨(hI.pure 4 _ _ rfl (hdd ⟨4, .data⟩ (by simp) rfl)), by obtain ⟨e2, e3⟩ := RG.SX.put hI.world; exact ⟨w.heap.size, 0, hI.fx 4 rfl, e2, by show RG.SX b 103 15 (fun c_ g_ => gC sh hand fn v2 v3 (if g_ = true then ⟨true, mx0 ix⟩ else t) ix sl gn) bm bw n f f' x w.heap.size none W1 (upd L 15 true 4) (upd L 15 true 14) (upd L 15 true 15) _; rw [upd_same, upd_other _ _ (show 4 ≠ 15 by decide), upd_other _ _ (show 14 ≠ 15 by decide)]; exact e3⟩⟩)
  | 16, _ => cases ho; exact RG.rX rfl rfl (fun L a w' hI hd => ex_assign rfl (hI.pure 14 _ _ rfl (hd ⟨14, .data⟩ (by simp) rfl)))
 case fin =>
  intro L a' w' hI hall
  rename_i K2 hK2
  refine hK2 _ _ ?_
  have hw := hI.world
  simp only [hall 4 (by decide), hall 14 (by decide), hall 15 (by decide)] at hw
  have rE := hw.sto rfl
  have pE : a'.eval (.tmp 4) = .pointer (some ⟨w.heap.size, 0, none⟩) := hI.fx 4 rfl
  have pe : a'.eval (.tmp 5) = .int .i64 1 := hI.pure 16 5 _ rfl (hall 16 (by decide))
  have hdf : a'.defers = [] := hI.df
  have hS := run_loadVar_mid (P := Tryz.prog) w' w.heap.size 0 _ _ dS rE HD.out.1 HD.out.2 size46
  have hres := results_ct (Q := Tryz.prog) (fn := Tryz.f121) (tmps := a'.tmps) (t := 4) (t' := 5) (W := w') (by rfl) pE hS
  rw [show a'.tmps.getD 5 undef = .int .i64 1 from pe] at hres
  go_wp2
  exact bodyPost_ret (v := .tuple #[x.val, .int .i64 1]) hres hdf ⟨rfl, hw.row, by simpa using hw.mem, TW1.out.trans' hw.tch (fun k hk h => by rcases h with h | h | h; exact .inl h; exact .inr h; omega)⟩
theorem put_any {w : World} {b bm bw n : Nat} {f f' : Nat → Int} {x : Stp} {sh : Shp} {hand : Int} {fn v2 v3 : Value} {t : Ans} {ix sl gn y : Int} (h5 : Shape.R5 sh.a sh.b sh.c sh.d sh.e) (h_ : w.rowIs b 103 15 (gC sh hand fn v2 v3 t ix sl gn)) (hm : IsMem w bm bw n f) (h1 : b ≠ bm) (h2 : b ≠ bw)
  (hx : stepOf n f ⟨hand, 2, headAt sh ix, 0, hd 0 y, true⟩ = x) (hf' : wordsOf n f ⟨hand, 2, headAt sh ix, 0, hd 0 y, true⟩ = f') :
  Calls Tryz.prog 120 #[.pointer (some ⟨b, 0, none⟩), .pointer (some ⟨bm, 0, none⟩), .int .u64 y] w fun e w' => e = .returned x.val ∧
   w'.rowIs b 103 15 (gC sh hand fn v2 v3 t ix sl gn) ∧ IsMem w' bm bw n f' ∧ Touch w w' (fun k => k = b ∨ k = bw) := by
 have lw := hm.row.lt
 have lm := hm.head.lt
 have hl := h_.lt
 have H5 := hide h5
 have HX := hide hx
 have HF := hide hf'
 have HW : Hid (0 ≤ (⟨hand, 2, headAt sh ix, 0, hd 0 y, true⟩ : Stp).put ∧ (⟨hand, 2, headAt sh ix, 0, hd 0 y, true⟩ : Stp).put ≤ 18446744073709551615) := ⟨hd_lo _ _, by have := hd_hi 0 y; show hd 0 y ≤ _; omega⟩
 have hn4 : w.heap.size ≠ bw := by omega
 have hn3 : w.heap.size ≠ b := by omega
 have hn5 : w.heap.size ≠ bm := by omega
 obtain ⟨W1, hW1⟩ : ∃ W1, w.alloc (.cells #[.int .i64 0, .int .i64 0, .int .i64 0, .int .u64 0, .int .u64 0, .bool false] 69) = W1 := ⟨_, rfl⟩
 have R := hide (show W1.rowIs b 103 15 (gC sh hand fn v2 v3 t ix sl gn) from by rw [← hW1]; exact h_.alloc _)
 have M := hide (show IsMem W1 bm bw n f from by rw [← hW1]; exact hm.alloc _)
 have RZ := hide (show W1.rowIs w.heap.size 69 6 zcell from by rw [← hW1]; exact row0 w)
 have TT := hide (show Touch w W1 (fun k => k = b ∨ k = bw) from by rw [← hW1]; exact (Touch.refl w _).alloc _)
 have sz : W1.heap.size = w.heap.size + 1 := by rw [← hW1]; simp
 obtain ⟨dS, hdS1, hdS2⟩ := row46
 have HD := hide (And.intro hdS1 hdS2)
 obtain ⟨dG, hdG1, hdG2⟩ := rowSh
 have HDS := hide (And.intro hdG1 hdG2)
 clear h5 hx hf' h_ hm hdS1 hdS2 hdG1 hdG2
 go_enter Tryz.func120, Tryz.ntmps120
 go_wp2_with fail
 clear hW1
 refine RG.regionB 17 (ks := [(0, 7), (1, 8), (2, 9), (3, 10), (4, 11), (5, 12), (6, 13), (7, 14), (8, 15), (9, 16), (10, 17), (11, 18), (12, 19), (13, 20), (14, 21), (15, 22)]) (vals := fun i => match i with
   | 0 => .pointer (some ⟨b, 0, none⟩)
   | 1 => .pointer (some ⟨b, 0, none⟩)
   | 2 => .pointer (some ⟨b, 0, none⟩)
   | 3 => .pointer (some ⟨bm, 0, none⟩)
   | 4 => .pointer (some ⟨b, 0, none⟩)
   | 5 => .pointer (some ⟨b, 0, none⟩)
   | 6 => .pointer (some ⟨b, 6, none⟩)
   | 7 => sh.val
   | 8 => .pointer (some ⟨b, 0, none⟩)
   | 9 => .pointer (some ⟨b, 0, none⟩)
   | 10 => .pointer (some ⟨b, 12, none⟩)
   | 11 => .int .i64 ix
   | 12 => .int .i64 (headAt sh ix)
   | 13 => .int .u64 y
   | 14 => .int .u64 (hd 0 y)
   | 15 => x.val
   | _ => undef) (x := 3) (WI := fun L v_ w' => RG.SX b 103 15 (fun c_ g_ => gC sh hand fn v2 v3 t ix sl gn) bm bw n f f' x w.heap.size none W1 (L 15) (L 15) (L 16) w') (by kernel_rfl) (by kernel_rfl) rfl (by kernel_rfl) (by kernel_rfl) (RG.SX.start (c := false) (g := false) R.out (by simpa using M.out) RZ.out ⟨h1, h2, hn3, hn5, hn4⟩ (fun k e => by cases e)) ?does ?fin
 case does =>
  intro i o ho
  have hi : i < 17 := RG.lt_of ho rfl
  match i, hi with
  | 0, _ => cases ho; exact RG.rX rfl rfl (fun L a w' hI hd => ex_move rfl (hI.fx 0 rfl))
  | 1, _ => cases ho; exact RG.rX rfl rfl (fun L a w' hI hd => ex_nil rfl (hI.pure 0 _ _ rfl (hd ⟨0, .data⟩ (by simp) rfl)))
  | 2, _ => cases ho; exact RG.rX rfl rfl (fun L a w' hI hd => ex_field rfl (hI.pure 1 _ _ rfl (hd ⟨1, .data⟩ (by simp) rfl)) (fieldG0 w' _))
  | 3, _ => cases ho; exact RG.rX rfl rfl (fun L a w' hI hd => ex_move rfl (hI.fx 1 rfl))
  | 4, _ => cases ho; exact RG.rX rfl rfl (fun L a w' hI hd => ex_move rfl (hI.fx 0 rfl))
  | 5, _ => cases ho; exact RG.rX rfl rfl (fun L a w' hI hd => ex_nil rfl (hI.pure 4 _ _ rfl (hd ⟨4, .data⟩ (by simp) rfl)))
  | 6, _ => cases ho; exact RG.rX rfl rfl (fun L a w' hI hd => ex_field rfl (hI.pure 5 _ _ rfl (hd ⟨5, .data⟩ (by simp) rfl)) (fieldG1 w' _))
  | 7, _ => cases ho; exact RG.rX rfl rfl (fun L a w' hI hd => ex_load_row rfl (hI.pure 6 _ _ rfl (hd ⟨6, .data⟩ (by simp) rfl)) (shrowAt (o := 6) (sh := sh) (by omega) rfl rfl rfl rfl rfl rfl hI.world.row) HDS.out.1 HDS.out.2 sizeSh)
  | 8, _ => cases ho; exact RG.rX rfl rfl (fun L a w' hI hd => ex_move rfl (hI.fx 0 rfl))
  | 9, _ => cases ho; exact RG.rX rfl rfl (fun L a w' hI hd => ex_nil rfl (hI.pure 8 _ _ rfl (hd ⟨8, .data⟩ (by simp) rfl)))
  | 10, _ => cases ho; exact RG.rX rfl rfl (fun L a w' hI hd => ex_field rfl (hI.pure 9 _ _ rfl (hd ⟨9, .data⟩ (by simp) rfl)) (fieldG2 w' _))
  | 11, _ => cases ho; exact RG.rX rfl rfl (fun L a w' hI hd => ex_load rfl (hI.pure 10 _ _ rfl (hd ⟨10, .data⟩ (by simp) rfl)) (aggI w') (hI.world.row.cell (i := 12) (by omega)))
  | 12, _ => cases ho; exact RG.Does.call rfl (fun L a w' hI hd => call2 rfl (hI.pure 7 _ _ rfl (hd ⟨7, .data⟩ (by simp) rfl)) (hI.pure 11 _ _ rfl (hd ⟨11, .data⟩ (by simp) rfl)) rfl (by simp [go_sem])) (fun L v_ w2 hI hL => ((fun w9 : World => headAt_any H5.out ix w9) w2).mono (by rintro e w3 ⟨rfl, hb⟩; exact ⟨rfl, RG.SX.skip (by decide) (by decide) (by decide)  (SXq hI hb)⟩))
  | 13, _ => cases ho; exact RG.rX rfl rfl (fun L a w' hI hd => ex_move rfl (hI.fx 2 rfl))
  | 14, _ => cases ho; exact RG.Does.ask rfl (fun L v_ w' h => RG.SX.skip (by decide) (by decide) (by decide) h) (fun L a w' hI hd => call2 rfl rfl (hI.pure 13 _ _ rfl (hd ⟨13, .data⟩ (by simp) rfl)) rfl (by simp [go_sem])) (fun w9 : World => handle_any 0 y w9)
  | 15, _ => cases ho; exact RG.Does.call rfl (fun L a w' hI hd => call4 rfl (hI.pure 2 _ _ rfl (hd ⟨2, .data⟩ (by simp) rfl)) (hI.pure 3 _ _ rfl (hd ⟨3, .data⟩ (by simp) rfl)) (hI.pure 12 _ _ rfl (hd ⟨12, .data⟩ (by simp) rfl)) (hI.pure 14 _ _ rfl (hd ⟨14, .data⟩ (by simp) rfl)) rfl (by simp [go_sem])) (fun L v_ w2 hI hL => by have h3 := hI; rw [hL] at h3; refine (row_act h3.row h2 (store_any (show World.cell? w2 ⟨b, 0, none⟩ = some (.int .i64 hand) from h3.row.cell (i := 0) (by omega)) h3.row.lt (by simpa using h3.mem) HW.out HX.out HF.out)).mono ?_; rintro e w3 ⟨rfl, r3, m3, t3⟩; refine ⟨rfl, ?_⟩; rw [upd_same, upd_other _ _ (show 16 ≠ 15 by decide)]; exact h3.turn (c' := true) (g' := true) r3 (by simpa using m3) t3 (fun k e => e))
  | 16, _ => cases ho; exact RG.Does.put (ls := x.cells) rfl rfl rfl size46 (by simp [Stp.cells, Value.oneCell']) (fun L a w' hI hL hdd => ⟨(hI.pure 15 _ _ rfl (hdd ⟨15, .data⟩ (by simp) rfl)), by obtain ⟨e2, e3⟩ := RG.SX.put hI.world; exact ⟨w.heap.size, 0, hI.fx 6 rfl, e2, by show RG.SX b 103 15 (fun c_ g_ => gC sh hand fn v2 v3 t ix sl gn) bm bw n f f' x w.heap.size none W1 (upd L 16 true 15) (upd L 16 true 15) (upd L 16 true 16) _; rw [upd_same, upd_other _ _ (show 15 ≠ 16 by decide)]; exact e3⟩⟩)
 case fin =>
  intro L a' w' hI hall
  have hw := hI.world
  simp only [hall 15 (by decide), hall 16 (by decide)] at hw
  have rE := hw.sto rfl
  have hrow := hide hw.row
  have hmem := hide hw.mem
  have htch := hide hw.tch
  have RQ := hide rE
  have l9 : w.heap.size < w'.heap.size := by have := hw.tch.size; omega
  clear hw
  have ea := act_all a' 23 (by rw [hI.sz]; rfl) hI.df
  simp only [List.range, List.range.loop, List.map] at ea
  rw [hI.fx 0 rfl, hI.fx 1 rfl, hI.fx 2 rfl, hI.fx 4 rfl, hI.fx 5 rfl, hI.fx 6 rfl] at ea
  clear hI hall
  obtain ⟨us, hus⟩ : ∃ us : Nat → Value, ∀ k, a'.eval (.tmp k) = us k := ⟨_, fun _ => rfl⟩
  simp only [hus] at ea
  simp only [show ∀ (ts : Array Value) (ds) (i : Nat), (Act.mk ts ds).eval (.tmp i) = ts.getD i undef from fun _ _ _ => rfl] at ea
  simp at ea
  subst ea
  obtain ⟨s0, s1, s2, s3, s4, s5⟩ := stp6 RQ.out
  go_wp2_with fail
  refine bodyPost_ret (v := x.val) ?res rfl ⟨rfl, hrow.out, by simpa using hmem.out, TT.out.trans' htch.out (fun k hk h => by rcases h with h | h | h; exact .inl h; exact .inr h; omega)⟩
  case res => simp [results, Tryz.results120, go_sem, Stp.val, *]
theorem leave_last {w : World} {b bm bw n : Nat} {f f' : Nat → Int} {x : Stp} {sh : Shp} {hand : Int} {fn v2 v3 : Value} {t : Ans} {ix sl gn : Int} (h_ : w.rowIs b 103 15 (gC sh hand fn v2 v3 t ix sl gn)) (hm : IsMem w bm bw n f) (h1 : b ≠ bm) (h2 : b ≠ bw) (h5 : Shape.R5 sh.a sh.b sh.c sh.d sh.e) (hq : gn = 4294967295)
  (hx : stepOf n f ⟨hand, 2, headAt sh ix, 0, hd 0 4294967295, true⟩ = x) (hf' : wordsOf n f ⟨hand, 2, headAt sh ix, 0, hd 0 4294967295, true⟩ = f') :
  Calls Tryz.prog 103 #[.pointer (some ⟨b, 0, none⟩), .pointer (some ⟨bm, 0, none⟩)] w fun e w' => e = .returned (.tuple #[x.val, .int .i64 0]) ∧
   w'.rowIs b 103 15 (gC sh hand (.func (.func 121) #[.pointer (some ⟨b, 0, none⟩)] #[]) v2 v3 t ix sl gn) ∧ IsMem w' bm bw n f' ∧ Touch w w' (fun k => k = b ∨ k = bw) := by
 have hl := h_.lt
 have lw := hm.row.lt
 have lm := hm.head.lt
 have hn3 : w.heap.size ≠ b := by omega
 have hn4 : w.heap.size ≠ bw := by omega
 have hn5 : w.heap.size ≠ bm := by omega
 obtain ⟨W1, hW1⟩ : ∃ W1, w.alloc (.cells #[.int .i64 0, .int .i64 0, .int .i64 0, .int .u64 0, .int .u64 0, .bool false] 69) = W1 := ⟨_, rfl⟩
 have R := hide (show W1.rowIs b 103 15 (gC sh hand fn v2 v3 t ix sl gn) from by rw [← hW1]; exact h_.alloc _)
 have M := hide (show IsMem W1 bm bw n f from by rw [← hW1]; exact hm.alloc _)
 have RZ := hide (show W1.rowIs w.heap.size 69 6 zcell from by rw [← hW1]; exact row0 w)
 have T0 := hide (show Touch w W1 (fun k => k = b ∨ k = bw) from by rw [← hW1]; exact (Touch.refl w _).alloc _)
 have sz : W1.heap.size = w.heap.size + 1 := by rw [← hW1]; simp
 have lW1 : b < W1.heap.size := by omega
 obtain ⟨⟨e0, ef0⟩, ⟨e1, ef1⟩, ⟨e2, ef2⟩, ⟨e3, ef3⟩, ⟨e4, ef4⟩, ⟨e5, ef5⟩, ⟨e6, ef6⟩, ⟨e7, ef7⟩, ⟨e8, ef8⟩, ⟨e9, ef9⟩, ⟨e10, ef10⟩, ⟨e11, ef11⟩, ⟨e12, ef12⟩, ⟨e13, ef13⟩, e14, ef14⟩ := g_facts R.out
 obtain ⟨dS, hdS1, hdS2⟩ := row46
 have HD := hide (And.intro hdS1 hdS2)
 obtain ⟨dG, hdG1, hdG2⟩ := rowSh
 have HDS := hide (And.intro hdG1 hdG2)
 have HX := hide hx
 have HF := hide hf'
 have HW : Hid (0 ≤ (⟨hand, 2, headAt sh ix, 0, hd 0 4294967295, true⟩ : Stp).put ∧ (⟨hand, 2, headAt sh ix, 0, hd 0 4294967295, true⟩ : Stp).put ≤ 18446744073709551615) := ⟨hd_lo _ _, by have := hd_hi 0 4294967295; show hd 0 4294967295 ≤ _; omega⟩
 have H5 := hide h5
 have hq2 : (gn == 4294967295) = true := by simpa using hq
 clear hm h_ hx hf' hdS1 hdS2 hdG1 hdG2 h5
 go_enter Tryz.func103, Tryz.ntmps103
 go_wp2_with fail
 clear hW1 e0 ef0 e1 ef1 e2 ef2 e3 ef3 e4 ef4 e5 ef5 e6 ef6 e7 ef7 e8 ef8 e9 ef9 e10 ef10 e11 ef11 e12 ef12 e13 ef13 e14 ef14
 clear hq hq2
 have RW1 := R
 have MW1 := M
 have QW1 := RZ
 have TW1 := T0
 refine RG.regionB 11 (ks := [(0, 11), (1, 12), (2, 13), (3, 14), (4, 15), (5, 16), (6, 17), (7, 18), (8, 19), (10, 5)]) (vals := fun i => match i with
    | 0 => .pointer (some ⟨b, 0, none⟩)
    | 1 => .pointer (some ⟨bm, 0, none⟩)
    | 2 => x.val
    | 3 => .pointer (some ⟨b, 0, none⟩)
    | 4 => .pointer (some ⟨b, 0, none⟩)
    | 5 => .pointer (some ⟨b, 0, none⟩)
    | 6 => .pointer (some ⟨b, 0, none⟩)
    | 7 => .func (.func 121) #[.pointer (some ⟨b, 0, none⟩)] #[]
    | 8 => .int .i64 0
    | 10 => .int .i64 0
    | _ => undef) (x := 2) (WI := fun L v_ w' => RG.SX b 103 15 (fun c_ g_ => gC sh hand (if g_ = true then (.func (.func 121) #[.pointer (some ⟨b, 0, none⟩)] #[]) else fn) v2 v3 t ix sl gn) bm bw n f f' x w.heap.size none W1 (L 2) (L 8) (L 9) w') (by kernel_rfl) (by kernel_rfl) rfl (by kernel_rfl) (by kernel_rfl) (RG.SX.start (c := false) (g := false) RW1.out (by simpa using MW1.out) QW1.out ⟨h1, h2, hn3, hn5, hn4⟩ (fun k e => by cases e)) ?does ?fin
 case does =>
  intro i o ho
  have hi : i < 11 := RG.lt_of ho rfl
  match i, hi with
  | 0, _ => cases ho; exact RG.rX rfl rfl (fun L a w' hI hd => ex_move rfl (hI.fx 0 rfl))
  | 1, _ => cases ho; exact RG.rX rfl rfl (fun L a w' hI hd => ex_move rfl (hI.fx 1 rfl))
  | 2, _ => cases ho; exact RG.Does.call rfl (fun L a w' hI hd => call3 rfl (hI.pure 0 _ _ rfl (hd ⟨0, .data⟩ (by simp) rfl)) (hI.pure 1 _ _ rfl (hd ⟨1, .data⟩ (by simp) rfl)) rfl rfl (by simp [go_sem])) (fun L v_ w2 hI hL => by have h3 := hI; rw [hL] at h3; refine (put_any (y := 4294967295) H5.out h3.row (by simpa using h3.mem) h1 h2 HX.out HF.out).mono ?_; rintro e w3 ⟨rfl, r3, m3, t3⟩; refine ⟨rfl, ?_⟩; rw [upd_same, upd_other _ _ (show 8 ≠ 2 by decide), upd_other _ _ (show 9 ≠ 2 by decide)]; exact h3.turn (c' := true) (r3.congr (fun i hi => (fun _ _ => rfl) i hi)) (by simpa using m3) t3 (fun k e => e))
  | 3, _ => cases ho; exact RG.rX rfl rfl (fun L a w' hI hd => ex_move rfl (hI.fx 0 rfl))
  | 4, _ => cases ho; exact RG.rX rfl rfl (fun L a w' hI hd => ex_nil rfl (hI.pure 3 _ _ rfl (hd ⟨3, .data⟩ (by simp) rfl)))
  | 5, _ => cases ho; exact RG.rX rfl rfl (fun L a w' hI hd => ex_field rfl (hI.pure 4 _ _ rfl (hd ⟨4, .data⟩ (by simp) rfl)) (fieldG0 w' _))
  | 6, _ => cases ho; exact RG.rX rfl rfl (fun L a w' hI hd => ex_move rfl (hI.fx 0 rfl))
  | 7, _ => cases ho; exact RG.rX rfl rfl (fun L a w' hI hd => ex_func rfl (hI.pure 6 _ _ rfl (hd ⟨6, .data⟩ (by simp) rfl)))
  | 8, _ => cases ho; exact RG.Does.call rfl (fun L a w' hI hd => call2 rfl (hI.pure 5 _ _ rfl (hd ⟨5, .data⟩ (by simp) rfl)) (hI.pure 7 _ _ rfl (hd ⟨7, .data⟩ (by simp) rfl)) rfl (by simp [go_sem])) (fun L v_ w2 hI hL => by have h3 := hI; rw [hL] at h3; refine (goOn_any 121 h3.row (by omega)).mono ?_; rintro e w3 ⟨rfl, r3, t3⟩; refine ⟨rfl, ?_⟩; rw [upd_same, upd_other _ _ (show 2 ≠ 8 by decide), upd_other _ _ (show 9 ≠ 8 by decide)]; exact h3.turn (g' := true) (r3.congr (fun i hi => g_fn _ _ _ _ _ _ _ _ _ _ i hi)) ⟨h3.mem.head.of_block (t3.block _ h3.mem.head.lt (fun e => h1 e.symm)), h3.mem.row.of_block (t3.block _ h3.mem.row.lt (fun e => h2 e.symm)), h3.mem.most, h3.mem.word⟩ t3 (fun k e => .inl e))
  | 9, _ => cases ho; exact RG.Does.put (ls := x.cells) rfl rfl rfl size46 (by simp [Stp.cells, Value.oneCell']) (fun L a w' hI hL hdd => ⟨(hI.pure 2 _ _ rfl (hdd ⟨2, .data⟩ (by simp) rfl)), by obtain ⟨e2, e3⟩ := RG.SX.put hI.world; exact ⟨w.heap.size, 0, hI.fx 4 rfl, e2, by show RG.SX b 103 15 (fun c_ g_ => gC sh hand (if g_ = true then (.func (.func 121) #[.pointer (some ⟨b, 0, none⟩)] #[]) else fn) v2 v3 t ix sl gn) bm bw n f f' x w.heap.size none W1 (upd L 9 true 2) (upd L 9 true 8) (upd L 9 true 9) _; rw [upd_same, upd_other _ _ (show 2 ≠ 9 by decide), upd_other _ _ (show 8 ≠ 9 by decide)]; exact e3⟩⟩)
  | 10, _ => cases ho; exact RG.rX rfl rfl (fun L a w' hI hd => ex_assign rfl (hI.pure 8 _ _ rfl (hd ⟨8, .data⟩ (by simp) rfl)))
 case fin =>
  intro L a' w' hI hall
  rename_i K2 hK2
  refine hK2 _ _ ?_
  have hw := hI.world
  simp only [hall 2 (by decide), hall 8 (by decide), hall 9 (by decide)] at hw
  have rE := hw.sto rfl
  have pE : a'.eval (.tmp 4) = .pointer (some ⟨w.heap.size, 0, none⟩) := hI.fx 4 rfl
  have pe : a'.eval (.tmp 5) = .int .i64 0 := hI.pure 10 5 _ rfl (hall 10 (by decide))
  have hdf : a'.defers = [] := hI.df
  have hS := run_loadVar_mid (P := Tryz.prog) w' w.heap.size 0 _ _ dS rE HD.out.1 HD.out.2 size46
  have hres := results_ct (Q := Tryz.prog) (fn := Tryz.f103) (tmps := a'.tmps) (t := 4) (t' := 5) (W := w') (by rfl) pE hS
  rw [show a'.tmps.getD 5 undef = .int .i64 0 from pe] at hres
  go_wp2
  exact bodyPost_ret (v := .tuple #[x.val, .int .i64 0]) hres hdf ⟨rfl, hw.row, by simpa using hw.mem, TW1.out.trans' hw.tch (fun k hk h => by rcases h with h | h | h; exact .inl h; exact .inr h; omega)⟩
end Rom
end
end Go.Proofs.YtppgbndoijppnaaGreat
