/-
  View: steps played again, pure; the package's replay of one step.
-/
import Derived.Test.YtbffhfmhjnflbaaVwO
namespace Go.Proofs.Ytbffhfmhjnflbaa
open Go.RowKit
set_option linter.unusedVariables false
set_option linter.unusedSimpArgs false
set_option linter.unnecessarySimpa false
set_option maxRecDepth 20000
namespace Vw
open Shape

/-- A step. -/
structure Sp where
  ha : Int
  ac : Int
  at' : Int
  hd : Int
  pt : Int
  ok : Bool
def Sp.cells (x : Sp) : List Value := [.int .i64 x.ha, .int .i64 x.ac, .int .i64 x.at', .int .u64 x.hd, .int .u64 x.pt, .bool x.ok]
def Sp.cell (x : Sp) (i : Nat) : Value := lrow x.cells i
/-- One step made, if it fits. -/
def one (m : Nat) (g : Nat → Int) (x : Sp) : Option (Nat → Int) :=
  if 0 ≤ x.at' ∧ x.at' < (m : Int) then (if x.hd = g x.at'.toNat then some (putF g x.at'.toNat x.pt) else none) else (if x.hd = 0 ∧ x.pt = 0 then some g else none)
def rp (m : Nat) (a : Nat → Sp) (g : Nat → Int) : Nat → Option (Nat → Int)
  | 0 => some g
  | n + 1 => (rp m a g n).bind fun g' => one m g' (a n)
theorem rp_none {m : Nat} {a : Nat → Sp} {g : Nat → Int} {k : Nat} (h : rp m a g k = none) : ∀ n, k ≤ n → rp m a g n = none := by
  intro n hn
  induction n with
  | zero => cases (show k = 0 by omega); exact h
  | succ n ih =>
    by_cases e : k = n + 1
    · subst e; exact h
    · simp only [rp, ih (by omega)]
      rfl
def rdm (m : Nat) (g : Nat → Int) : Option (Nat → Int) → Int × Nat × (Nat → Int)
  | none => (130, 0, g)
  | some g' => (0, m, g')
/-- What Replay tells: the error, and the words. -/
def rd (m ns : Nat) (n : Int) (a : Nat → Sp) (g : Nat → Int) : Int × Nat × (Nat → Int) :=
  if 4096 < m ∨ 65536 < ns then (1, 0, g) else if n < 0 ∨ (ns : Int) < n then (2, 0, g) else rdm m g (rp m a g n.toNat)
/-- Steps as they are seen. -/
def SeesP (w : World) (ao : Option Addr) (n : Nat) (a : Nat → Sp) : Prop :=
  ∀ j, j < n → ∃ b off, ao = some ⟨b, off, none⟩ ∧ b < w.heap.size ∧ ∀ i, i < 6 → w.cell? ⟨b, off + j * 6 + i, none⟩ = some ((a j).cell i)
theorem SeesP.on {w w' : World} {ao : Option Addr} {n : Nat} {a : Nat → Sp} (h : SeesP w ao n a) (hb : Below w.heap.size w w') : SeesP w' ao n a :=
  fun j hj => by obtain ⟨b, off, e, hl, hc⟩ := h j hj; exact ⟨b, off, e, Nat.lt_of_lt_of_le hl hb.size, fun i hi => (hb.cell (p := ⟨b, off + j * 6 + i, none⟩) hl).trans (hc i hi)⟩
theorem SeesP.cells {w : World} {ao : Option Addr} {n : Nat} {a : Nat → Sp} (h : SeesP w ao n a) {j : Nat} (hj : j < n) : ∃ b off, ao = some ⟨b, off, none⟩ ∧ b < w.heap.size ∧ w.cell? ⟨b, off + j * 6, none⟩ = some (.int .i64 (a j).ha) ∧ w.cell? ⟨b, off + j * 6 + 1, none⟩ = some (.int .i64 (a j).ac) ∧ w.cell? ⟨b, off + j * 6 + 2, none⟩ = some (.int .i64 (a j).at') ∧ w.cell? ⟨b, off + j * 6 + 3, none⟩ = some (.int .u64 (a j).hd) ∧ w.cell? ⟨b, off + j * 6 + 4, none⟩ = some (.int .u64 (a j).pt) ∧ w.cell? ⟨b, off + j * 6 + 5, none⟩ = some (.bool (a j).ok) := by
  obtain ⟨b, off, e, hl, hc⟩ := h j hj
  exact ⟨b, off, e, hl, (by have := hc 0 (by decide); simpa [Sp.cell, lrow, Sp.cells] using this), hc 1 (by decide), hc 2 (by decide), hc 3 (by decide), hc 4 (by decide), hc 5 (by decide)⟩
theorem wcs_put (n : Nat) (f : Nat → Int) (k : Nat) (v : Int) : wcs n (putF f k v) = (wcs n f).set k (.int .u64 v) := by
  apply List.ext_getElem?
  intro i
  rw [List.getElem?_set]
  by_cases hi : i < n
  · by_cases e : k = i
    · subst e
      rw [wcs_get _ hi]
      simp [putF, wcs_len, hi]
    · rw [wcs_get _ hi, if_neg e, wcs_get _ hi]
      simp [putF, Ne.symm e]
  · have h1 : (wcs n (putF f k v))[i]? = none := List.getElem?_eq_none (by rw [wcs_len]; omega)
    have h2 : (wcs n f)[i]? = none := List.getElem?_eq_none (by rw [wcs_len]; omega)
    rw [h1, h2]
    by_cases e : k = i
    · subst e; simp [wcs_len, hi]
    · simp [e]
theorem owns_put {w : World} {base g cap n : Nat} {f : Nat → Int} (h : w.ownsRow base 27 1 (.slice (some ⟨g, 0, none⟩) n cap) n (wcs n f)) (k : Nat) (v : Int) : (w.setCell ⟨g, k, none⟩ (.int .u64 v)).ownsRow base 27 1 (.slice (some ⟨g, 0, none⟩) n cap) n (wcs n (putF f k v)) := by
  obtain ⟨hl, ⟨h1, _⟩ | ⟨g', cap', cur, h1, hb, hg, hc, hm, hs, ht⟩⟩ := h
  · cases h1
  · cases h1
    refine ⟨by rw [wcs_len]; omega, .inr ⟨g, cap, cur.setIfInBounds k (.int .u64 v), rfl, hb, ?_, hc, hm, by simpa using hs, ?_⟩⟩
    · simp [World.setCell, Array.getElem?_modify, hg]
    · rw [wcs_put, ← ht]
      simp [List.take_set]
theorem sbox (w : World) (ha ac at' hd pt : Int) (ok : Bool) : ∃ W0, w.alloc (.cells #[.int .i64 ha, .int .i64 ac, .int .i64 at', .int .u64 hd, .int .u64 pt, .bool ok] 47) = W0 ∧ Below w.heap.size w W0 ∧ W0.rowIs w.heap.size 47 6 (lrow [.int .i64 ha, .int .i64 ac, .int .i64 at', .int .u64 hd, .int .u64 pt, .bool ok]) := ⟨_, rfl, (Below.refl _ w).alloc (Nat.le_refl _) _, rowL_alloc w [.int .i64 ha, .int .i64 ac, .int .i64 at', .int .u64 hd, .int .u64 pt, .bool ok] _ rfl⟩

set_option maxHeartbeats 2000000 in
theorem one_ok {m base g : Nat} {f : Nat → Int} {ha ac at' hd pt : Int} {ok : Bool} {w : World} (hO : w.ownsRow base 27 1 (.slice (some ⟨g, 0, none⟩) m m) m (wcs m f)) (hm : m ≤ 4096) (hb : base ≤ w.heap.size) :
    Calls Try.prog 38 #[.slice (some ⟨g, 0, none⟩) m m, .agg #[.int .i64 ha, .int .i64 ac, .int .i64 at', .int .u64 hd, .int .u64 pt, .bool ok]] w fun e w' => (match one m f ⟨ha, ac, at', hd, pt, ok⟩ with | none => e = .returned (.bool false) | some f' => e = .returned (.bool true) ∧ Hid (w'.ownsRow base 27 1 (.slice (some ⟨g, 0, none⟩) m m) m (wcs m f'))) ∧ Below base w w' := by
  obtain ⟨W0, hW0, B0, R0⟩ := sbox w ha ac at' hd pt ok
  have HB := hide (B0.mono hb)
  have c2 : W0.cell? ⟨w.heap.size, 2, none⟩ = some (.int .i64 at') := R0.cell (i := 2) (by decide)
  have c3 : W0.cell? ⟨w.heap.size, 3, none⟩ = some (.int .u64 hd) := R0.cell (i := 3) (by decide)
  have c4 : W0.cell? ⟨w.heap.size, 4, none⟩ = some (.int .u64 pt) := R0.cell (i := 4) (by decide)
  have O0 := hide (owns_on hO B0)
  have HG := hide (show base ≤ g from (hO.lt g rfl).1)
  have hgl : g < w.heap.size := (hO.lt g rfl).2
  clear R0 B0 hO
  by_cases hat : 0 ≤ at' ∧ at' < (m : Int)
  · obtain ⟨k, rfl⟩ : ∃ k : Nat, at' = (k : Int) := ⟨at'.toNat, by omega⟩
    have hk : k < m := by omega
    have hk2 : (k : Int) < (m : Int) := by omega
    have l1 : ¬ ((k : Int) < 0) := by omega
    have l2 : ¬ ((m : Int) ≤ (k : Int)) := by omega
    obtain ⟨b', e', _, _, ck, fk⟩ := owns_cell O0.out (wcs_get f hk)
    cases e'
    have hone : one m f ⟨ha, ac, (k : Int), hd, pt, ok⟩ = if hd = f k then some (putF f k pt) else none := by
      unfold one
      rw [if_pos hat]
      rfl
    rw [hone]
    clear hone hat
    by_cases hh : hd = f k
    · rw [if_pos hh]
      have hh2 : (hd != f k) = false := by simp [hh]
      clear hh
      go_enter Try.func38, Try.ntmps38
      go_upto_region 3 with (fail)
      go_quiet (fail)
      go_wp2
      go_ret
      exact ⟨⟨rfl, owns_put (w := W0.drewN nq) O0.out k pt⟩, (below_drewN HB.out nq).setCell HG.out _⟩
    · rw [if_neg hh]
      have hh2 : (hd != f k) = true := by simp [hh]
      go_enter Try.func38, Try.ntmps38
      go_upto_region 3 with (fail)
      go_quiet (fail)
      go_wp2
      go_ret
      exact ⟨rfl, below_drewN HB.out _⟩
  · have hone : one m f ⟨ha, ac, at', hd, pt, ok⟩ = if hd = 0 ∧ pt = 0 then some f else none := by
      unfold one
      rw [if_neg hat]
    rw [hone]
    clear hone
    by_cases hn : at' < 0
    · clear hat
      by_cases h0 : hd = 0
      · by_cases p0 : pt = 0
        · rw [if_pos ⟨h0, p0⟩]
          subst h0 p0
          go_enter Try.func38, Try.ntmps38
          go_wp2_with fail
          go_ret
          exact ⟨⟨rfl, O0.out⟩, HB.out⟩
        · rw [if_neg (fun h => p0 h.2)]
          have p1 : (pt == 0) = false := by simp [p0]
          subst h0
          go_enter Try.func38, Try.ntmps38
          go_wp2_with fail
          go_ret
          exact ⟨rfl, HB.out⟩
      · rw [if_neg (fun h => h0 h.1)]
        have h1 : (hd == 0) = false := by simp [h0]
        go_enter Try.func38, Try.ntmps38
        go_wp2_with fail
        go_ret
        exact ⟨rfl, HB.out⟩
    · have hge : (m : Int) ≤ at' := by omega
      clear hat
      by_cases h0 : hd = 0
      · by_cases p0 : pt = 0
        · rw [if_pos ⟨h0, p0⟩]
          subst h0 p0
          go_enter Try.func38, Try.ntmps38
          go_wp2_with fail
          go_ret
          exact ⟨⟨rfl, O0.out⟩, HB.out⟩
        · rw [if_neg (fun h => p0 h.2)]
          have p1 : (pt == 0) = false := by simp [p0]
          subst h0
          go_enter Try.func38, Try.ntmps38
          go_wp2_with fail
          go_ret
          exact ⟨rfl, HB.out⟩
      · rw [if_neg (fun h => h0 h.1)]
        have h1 : (hd == 0) = false := by simp [h0]
        go_enter Try.func38, Try.ntmps38
        go_wp2_with fail
        go_ret
        exact ⟨rfl, HB.out⟩
end Vw
end Go.Proofs.Ytbffhfmhjnflbaa
