/-
  EpochEnd: whatever shape, words, hands, schedule and bound are handed in, the law answers true, and the input reads as it did. No condition beyond the row's.
-/
import Derived.Test.YtbohmahjpolapaaTp33
import Derived.Deep.CutBlock
import Derived.Deep.CutRange
import Derived.Test.YtbohmahjpolapaaTp36
set_option linter.unusedVariables false
set_option linter.unusedSimpArgs false
set_option linter.unnecessarySimpa false
set_option maxRecDepth 100000
namespace Go.Proofs.Ytbohmahjpolapaa
open Go.RowKit
namespace Epoch

/-- The bits of those below i that are so. -/
def msk (S : Nat → Bool) : Nat → Nat
  | 0 => 0
  | i + 1 => if S i = true then msk S i ||| 2 ^ i else msk S i
theorem msk_lt (S : Nat → Bool) : ∀ i, msk S i < 2 ^ i
  | 0 => by simp [msk]
  | i + 1 => by
    have h := msk_lt S i
    have h2 : 2 ^ i < 2 ^ (i + 1) := Nat.pow_lt_pow_right (by omega) (by omega)
    unfold msk
    split
    · exact Nat.or_lt_two_pow (by omega) h2
    · omega
theorem msk_bit (S : Nat → Bool) : ∀ i p, (msk S i).testBit p = (decide (p < i) && S p)
  | 0, p => by simp [msk]
  | i + 1, p => by
    unfold msk
    by_cases h : S i = true
    · rw [if_pos h, Nat.testBit_or, msk_bit S i p, Nat.testBit_two_pow]
      by_cases e : i = p
      · subst e; simp [h]
      · have : decide (p < i + 1) = decide (p < i) := by congr 1; apply propext; omega
        simp [e, this]
    · rw [if_neg h, msk_bit S i p]
      by_cases e : p = i
      · subst e; simp at h; simp [h]
      · have : decide (p < i + 1) = decide (p < i) := by congr 1; apply propext; omega
        rw [this]
theorem msk_congr {S S' : Nat → Bool} {i : Nat} (h : ∀ p, p < i → S p = S' p) : msk S i = msk S' i := by
  apply Nat.eq_of_testBit_eq
  intro p
  rw [msk_bit, msk_bit]
  by_cases l : p < i
  · simp [l, h p l]
  · simp [l]

/-- A place's word behind a Reap with that epoch. -/
def gone (E : Int) (g : Nat → Int) (p : Nat) : Int := if due (g p) E then 0 else g p

/-- A Reap under way: the places' words were g when it began, the epoch E. -/
structure Rp (r : Nat) (E : Int) (g f : Nat → Int) (s : EpS) (left : Nat) : Prop where
  k4 : s.j.kind = 4
  h0 : s.hand = 0
  out : ∀ i, i < 8 → f (1 + i) = 0
  way : (s.st = 0 ∧ f 0 = E ∧ (∀ p, p < r → f (9 + p) = g p) ∧ s.mask = 0 ∧ left = 11 + 2 * r) ∨
    (∃ i : Nat, i < 8 ∧ s.st = 1 ∧ s.nx = i ∧ s.e = E ∧ f 0 = E ∧ (∀ p, p < r → f (9 + p) = g p) ∧ s.mask = 0 ∧ left = 10 - i + 2 * r) ∨
    (s.st = 2 ∧ s.e = E ∧ f 0 = E ∧ (∀ p, p < r → f (9 + p) = g p) ∧ s.mask = 0 ∧ left = 2 + 2 * r) ∨
    (s.st = 3 ∧ f 0 = E + 1 ∧ (∀ p, p < r → f (9 + p) = g p) ∧ s.mask = 0 ∧ left = 1 + 2 * r) ∨
    (∃ i : Nat, i < r ∧ s.st = 4 ∧ s.nx = i ∧ s.f = E + 1 ∧ f 0 = E + 1 ∧ (∀ p, p < r → f (9 + p) = if p < i then gone (E + 1) g p else g p) ∧ s.mask = (msk (fun p => decide (due (g p) (E + 1))) i : Int) ∧ left = 2 * (r - i)) ∨
    (∃ i : Nat, i < r ∧ s.st = 5 ∧ s.nx = i ∧ s.f = E + 1 ∧ s.given = g i ∧ due (g i) (E + 1) ∧ f 0 = E + 1 ∧ (∀ p, p < r → f (9 + p) = if p < i then gone (E + 1) g p else g p) ∧ s.mask = (msk (fun p => decide (due (g p) (E + 1))) i : Int) ∧ left + 1 = 2 * (r - i))

/-- Behind a Reap. -/
structure Rd (r : Nat) (E : Int) (g f : Nat → Int) (a : Ans) : Prop where
  out : ∀ i, i < 8 → f (1 + i) = 0
  f0 : f 0 = E + 1
  pl : ∀ p, p < r → f (9 + p) = gone (E + 1) g p
  an : a = ⟨true, (msk (fun p => decide (due (g p) (E + 1))) r : Int)⟩

theorem mput_msk (S : Nat → Bool) (i : Nat) (h : S i = true) : mput (msk S i : Int) (i : Int) = (msk S (i + 1) : Int) := by
  unfold mput
  rw [Int.toNat_natCast, Int.toNat_natCast]
  show _ = ((if S i = true then msk S i ||| 2 ^ i else msk S i : Nat) : Int)
  rw [if_pos h]

set_option maxHeartbeats 4000000 in
theorem Rp.step {r n : Nat} (hr1 : 1 ≤ r) (hr2 : r ≤ 64) (hn : n = 9 + r) {E : Int} (hE : 0 ≤ E ∧ E ≤ 100000) {g f f' : Nat → Int} {s : EpS} {left : Nat} (R : Rp r E g f s left) {x : Stp} (hx : stepOf n f (ereq s) = x) (hf : wordsOf n f (ereq s) = f') :
    (eends r s x = false ∧ 2 ≤ left ∧ ∃ left', left' < left ∧ Rp r E g f' (enext r s x) left') ∨ (eends r s x = true ∧ 1 ≤ left ∧ Rd r E g f' (enext r s x).told) := by
  have k4 := R.k4
  have h0 := R.h0
  have n1 : ¬ s.j.kind = 1 := by omega
  have n2 : ¬ s.j.kind = 2 := by omega
  have n3 : ¬ s.j.kind = 3 := by omega
  have jj : ∀ y, (enext r s y).j = s.j := fun y => enext_j r s y
  have hh : ∀ y, (enext r s y).hand = s.hand := fun y => enext_hand r s y
  rcases R.way with ⟨st, w0, wp, mz, el⟩ | ⟨i, hi, st, nx, ee, w0, wp, mz, el⟩ | ⟨st, ee, w0, wp, mz, el⟩ | ⟨st, w0, wp, mz, el⟩ | ⟨i, hi, st, nx, sf, w0, wp, mm, el⟩ | ⟨i, hi, st, nx, sf, gv, du, w0, wp, mm, el⟩
  · have e4 : ereq s = ⟨s.hand, 1, ((0 : Nat) : Int), 0, 0, true⟩ := by simp [ereq, k4, st]
    rw [e4, ld_step _ (by omega)] at hx
    rw [e4, ld_words _ (by omega)] at hf
    subst hf
    have e5 : eends r s x = false := by simp [eends, k4, st]
    have e7 : enext r s x = { s with e := x.had, nx := 0, st := 1 } := by simp [enext, k4, st]
    refine .inl ⟨e5, by omega, 10 + 2 * r, by omega, by rw [jj]; exact k4, by rw [hh]; exact h0, R.out, .inr (.inl ⟨0, by omega, by rw [e7], by rw [e7]; rfl, by rw [e7, ← hx]; exact w0, w0, wp, by rw [e7]; exact mz, by omega⟩)⟩
  · have e4 : ereq s = ⟨s.hand, 1, ((1 + i : Nat) : Int), 0, 0, true⟩ := by simp [ereq, k4, st, nx]
    rw [e4, ld_step _ (by omega)] at hx
    rw [e4, ld_words _ (by omega)] at hf
    subst hf
    have e5 : eends r s x = false := by simp [eends, k4, st]
    have xh : x.had = 0 := by rw [← hx]; exact R.out i hi
    have nb : ¬ bars x.had s.e := by rw [xh]; unfold bars; simp
    have e7 : enext r s x = { s with nx := s.nx + 1, st := if s.nx + 1 = 8 then 2 else 1 } := by simp [enext, k4, st, nb]
    by_cases l8 : i + 1 = 8
    · have c : s.nx + 1 = 8 := by omega
      refine .inl ⟨e5, by omega, 2 + 2 * r, by omega, by rw [jj]; exact k4, by rw [hh]; exact h0, R.out, .inr (.inr (.inl ⟨by rw [e7]; simp [c], by rw [e7]; exact ee, w0, wp, by rw [e7]; exact mz, rfl⟩))⟩
    · have c : ¬ s.nx + 1 = 8 := by omega
      refine .inl ⟨e5, by omega, 10 - (i + 1) + 2 * r, by omega, by rw [jj]; exact k4, by rw [hh]; exact h0, R.out, .inr (.inl ⟨i + 1, by omega, by rw [e7]; simp [c], by rw [e7]; show s.nx + 1 = _; omega, by rw [e7]; exact ee, w0, wp, by rw [e7]; exact mz, rfl⟩)⟩
  · have e4 : ereq s = ⟨s.hand, 5, ((0 : Nat) : Int), s.e, u64 (s.e + 1), true⟩ := by simp [ereq, k4, st]
    have eu : u64 (s.e + 1) = E + 1 := by rw [ee]; exact u64_id (by omega)
    rw [e4, eu] at hx hf
    obtain ⟨c1, c2⟩ := cas_yes (n := n) (f := f) (a := 0) s.hand s.e (E + 1) (by omega) (by rw [w0, ee])
    rw [c2] at hf
    have e5 : eends r s x = false := by simp [eends, k4, st]
    have e7 : enext r s x = { s with st := 3 } := by simp [enext, k4, st]
    refine .inl ⟨e5, by omega, 1 + 2 * r, by omega, by rw [jj]; exact k4, by rw [hh]; exact h0, fun i hi => by rw [← hf, putF_other (by omega)]; exact R.out i hi, .inr (.inr (.inr (.inl ⟨by rw [e7], by rw [← hf]; exact putF_same, fun p hp => by rw [← hf, putF_other (by omega)]; exact wp p hp, by rw [e7]; exact mz, rfl⟩)))⟩
  · have e4 : ereq s = ⟨s.hand, 1, ((0 : Nat) : Int), 0, 0, true⟩ := by simp [ereq, k4, st]
    rw [e4, ld_step _ (by omega)] at hx
    rw [e4, ld_words _ (by omega)] at hf
    subst hf
    have e5 : eends r s x = false := by simp [eends, k4, st]
    have e7 : enext r s x = { s with f := x.had, nx := 0, st := 4 } := by simp [enext, k4, st]
    refine .inl ⟨e5, by omega, 2 * r, by omega, by rw [jj]; exact k4, by rw [hh]; exact h0, R.out, .inr (.inr (.inr (.inr (.inl ⟨0, by omega, by rw [e7], by rw [e7]; rfl, by rw [e7, ← hx]; exact w0, w0, fun p hp => by rw [if_neg (by omega)]; exact wp p hp, by rw [e7]; exact mz, by omega⟩))))⟩
  · have e4 : ereq s = ⟨s.hand, 1, ((9 + i : Nat) : Int), 0, 0, true⟩ := by simp [ereq, k4, st, nx]
    rw [e4, ld_step _ (by omega)] at hx
    rw [e4, ld_words _ (by omega)] at hf
    subst hf
    have xh : x.had = g i := by rw [← hx]; show f (9 + i) = g i; rw [wp i hi, if_neg (by omega)]
    by_cases du : due (g i) (E + 1)
    · have dx : due x.had s.f := by rw [xh, sf]; exact du
      have e5 : eends r s x = false := by simp [eends, k4, st, dx]
      have e7 : enext r s x = { s with w := x.had, given := x.had, st := 5 } := by simp [enext, k4, st, dx]
      refine .inl ⟨e5, by omega, 2 * (r - i) - 1, by omega, by rw [jj]; exact k4, by rw [hh]; exact h0, R.out, .inr (.inr (.inr (.inr (.inr ⟨i, hi, by rw [e7], by rw [e7]; exact nx, by rw [e7]; exact sf, by rw [e7]; exact xh, du, w0, wp, by rw [e7]; exact mm, by omega⟩))))⟩
    · have dx : ¬ due x.had s.f := by rw [xh, sf]; exact du
      have mi : msk (fun p => decide (due (g p) (E + 1))) (i + 1) = msk (fun p => decide (due (g p) (E + 1))) i := by
        show (if decide (due (g i) (E + 1)) = true then _ else _) = _
        rw [if_neg (by simpa using du)]
      have wp' : ∀ p, p < r → f (9 + p) = if p < i + 1 then gone (E + 1) g p else g p := fun p hp => by
        rw [wp p hp]
        by_cases e : p = i
        · subst e; rw [if_neg (by omega), if_pos (by omega)]; unfold gone; rw [if_neg du]
        · by_cases l : p < i
          · rw [if_pos l, if_pos (by omega)]
          · rw [if_neg l, if_neg (by omega)]
      have e7 : enext r s x = { s with w := x.had, nx := s.nx + 1, told := if s.nx + 1 < r then s.told else ⟨true, s.mask⟩ } := by simp [enext, k4, st, dx]
      by_cases l : i + 1 < r
      · have c : s.nx + 1 < (r : Int) := by omega
        have e5 : eends r s x = false := by simp [eends, k4, st, dx, c]
        refine .inl ⟨e5, by omega, 2 * (r - (i + 1)), by omega, by rw [jj]; exact k4, by rw [hh]; exact h0, R.out, .inr (.inr (.inr (.inr (.inl ⟨i + 1, l, by rw [e7]; exact st, by rw [e7]; show s.nx + 1 = _; omega, by rw [e7]; exact sf, w0, wp', by rw [e7, mi]; exact mm, rfl⟩))))⟩
      · have c : ¬ s.nx + 1 < (r : Int) := by omega
        have e5 : eends r s x = true := by simp [eends, k4, st, dx, c]
        have er : r = i + 1 := by omega
        refine .inr ⟨e5, by omega, R.out, w0, fun p hp => by rw [wp' p hp, if_pos (by omega)], ?_⟩
        rw [e7]
        show (if s.nx + 1 < (r : Int) then s.told else (⟨true, s.mask⟩ : Ans)) = _
        rw [if_neg c, mm, ← mi, er]
  · have e4 : ereq s = ⟨s.hand, 5, ((9 + i : Nat) : Int), s.given, 0, true⟩ := by simp [ereq, k4, st, nx]
    rw [e4] at hx hf
    obtain ⟨c1, c2⟩ := cas_yes (n := n) (f := f) (a := 9 + i) s.hand s.given 0 (by omega) (by rw [wp i hi, if_neg (by omega), gv])
    rw [c2] at hf
    rw [c1] at hx
    have xo : x.ok = true := by rw [← hx]
    have mi : mput s.mask s.nx = (msk (fun p => decide (due (g p) (E + 1))) (i + 1) : Int) := by rw [mm, nx]; exact mput_msk _ i (by simpa using du)
    have wp' : ∀ p, p < r → f' (9 + p) = if p < i + 1 then gone (E + 1) g p else g p := fun p hp => by
      by_cases e : p = i
      · subst e; rw [← hf, putF_same, if_pos (by omega)]; unfold gone; rw [if_pos du]
      · rw [← hf, putF_other (by omega), wp p hp]
        by_cases l : p < i
        · rw [if_pos l, if_pos (by omega)]
        · rw [if_neg l, if_neg (by omega)]
    have out' : ∀ q, q < 8 → f' (1 + q) = 0 := fun q hq => by rw [← hf, putF_other (by omega)]; exact R.out q hq
    have w0' : f' 0 = E + 1 := by rw [← hf, putF_other (by omega)]; exact w0
    have e7 : enext r s x = { s with mask := mput s.mask s.nx, nx := s.nx + 1, st := 4, told := if s.nx + 1 < r then s.told else ⟨true, mput s.mask s.nx⟩ } := by simp [enext, k4, st, xo]
    by_cases l : i + 1 < r
    · have c : s.nx + 1 < (r : Int) := by omega
      have e5 : eends r s x = false := by simp [eends, k4, st, c]
      refine .inl ⟨e5, by omega, 2 * (r - (i + 1)), by omega, by rw [jj]; exact k4, by rw [hh]; exact h0, out', .inr (.inr (.inr (.inr (.inl ⟨i + 1, l, by rw [e7], by rw [e7]; show s.nx + 1 = _; omega, by rw [e7]; exact sf, w0', wp', by rw [e7]; exact mi, rfl⟩))))⟩
    · have c : ¬ s.nx + 1 < (r : Int) := by omega
      have e5 : eends r s x = true := by simp [eends, k4, st, c]
      have er : r = i + 1 := by omega
      refine .inr ⟨e5, by omega, out', w0', fun p hp => by rw [wp' p hp, if_pos (by omega)], ?_⟩
      rw [e7]
      show (if s.nx + 1 < (r : Int) then s.told else (⟨true, mput s.mask s.nx⟩ : Ans)) = _
      rw [if_neg c, mi, er]
end Epoch
end Go.Proofs.Ytbohmahjpolapaa

namespace Go.Proofs.Ytbohmahjpolapaa
open Go.RowKit
namespace Epoch

theorem run_sv {r : Nat} {P : Par} (hr1 : 1 ≤ r) (hr2 : r ≤ 64) (hn : P.n = 9 + r) (hok : Jok r P) : ∀ m, m ≤ 65536 → ∃ L E0, Sv r P (rn r P m).f (rn r P m).done (rn r P m).cur L E0 m
  | 0, _ => ⟨_, _, sv_start (g := fun _ _ => default)⟩
  | m + 1, hm => by
    obtain ⟨L, E0, S⟩ := run_sv hr1 hr2 hn hok m (by omega)
    have I := run_iv hr1 hr2 hn hok m (by omega)
    rcases run_succ_cases P (st0 (kEpoch r) P (fun _ => 0)) rfl m with ⟨e, _⟩ | ⟨h, _, hh, hd, _, e⟩
    · have e' : rn r P (m + 1) = rn r P m := e
      rw [e']
      exact ⟨L, E0, ⟨fun i => by have := S.ib i; omega, S.i8, S.ow, fun i => by have := S.bb i; omega, fun p hp => by obtain ⟨a, b, c⟩ := S.gb p hp; exact ⟨by omega, b, c⟩, S.gk, S.hq, S.mz, fun i => by have := S.mb i; omega⟩⟩
    · have e' : rn r P (m + 1) = stepSt P (rn r P m) h := e
      obtain ⟨⟨E0', S'⟩, le, ck⟩ := S.step hr1 hr2 hn hok (by omega) I hh hd rfl rfl
      rw [e']
      exact ⟨_, E0', S'⟩

/-- A place's word is at most one above the epoch. -/
theorem run_gb {r : Nat} {P : Par} (hr1 : 1 ≤ r) (hr2 : r ≤ 64) (hn : P.n = 9 + r) (hok : Jok r P) {m : Nat} (hm : m ≤ 65536) {p : Nat} (hp : p < r) : (rn r P m).f (9 + p) ≤ (rn r P m).f 0 + 1 := by
  obtain ⟨L, E0, S⟩ := run_sv hr1 hr2 hn hok m hm
  exact (S.gb p hp).2.2

/-- The places' words behind t Reaps alone. -/
def gs (E : Int) (g : Nat → Int) : Nat → Nat → Int
  | 0 => g
  | t + 1 => gone (E + (t : Int) + 1) (gs E g t)
/-- What the Reap behind them gives back. -/
def mk3 (r : Nat) (E : Int) (g : Nat → Int) (t : Nat) : Nat := msk (fun p => decide (due (gs E g t p) (E + (t : Int) + 1))) r

/-- Three Reaps, one hand, no schedule. -/
def par (r : Nat) : Par := ⟨9 + r, 1, fun _ => 3, fun _ _ => ⟨4, 0, 0, 0, 0⟩, 0, fun _ => 0⟩

theorem Rp.pos {r : Nat} {E : Int} {g f : Nat → Int} {s : EpS} {left : Nat} (R : Rp r E g f s left) : 1 ≤ left := by
  rcases R.way with ⟨_, _, _, _, el⟩ | ⟨i, hi, _, _, _, _, _, _, el⟩ | ⟨_, _, _, _, _, el⟩ | ⟨_, _, _, _, el⟩ | ⟨i, hi, _, _, _, _, _, _, el⟩ | ⟨i, hi, _, _, _, _, _, _, _, _, el⟩ <;> omega

theorem Rp.init {r : Nat} {E : Int} {g f : Nat → Int} (o : ∀ i, i < 8 → f (1 + i) = 0) (h0 : f 0 = E) (hp : ∀ p, p < r → f (9 + p) = g p) : Rp r E g f (einit ((0 : Nat) : Int) ⟨4, 0, 0, 0, 0⟩) (11 + 2 * r) :=
  ⟨rfl, rfl, o, .inl ⟨rfl, h0, hp, rfl, rfl⟩⟩

structure Rn (r : Nat) (E : Int) (g : Nat → Int) (st : St (kEpoch r)) (m t left : Nat) : Prop where
  dn : st.done 0 = t
  t3 : t ≤ 3
  an : ∀ j, j < t → st.ans 0 j = ⟨true, (mk3 r E g j : Int)⟩
  go : t < 3 → Rp r (E + (t : Int)) (gs E g t) st.f (st.cur 0) left ∧ left + (2 - t) * (11 + 2 * r) + m ≤ 3 * (11 + 2 * r)

theorem Rn.step {r : Nat} (hr1 : 1 ≤ r) (hr2 : r ≤ 64) {E : Int} (hE : 0 ≤ E ∧ E ≤ 65536) {g : Nat → Int} {st : St (kEpoch r)} {m t left : Nat} (R : Rn r E g st m t left) (ht : t < 3) : ∃ t' left', Rn r E g (stepSt (par r) st 0) (m + 1) t' left' := by
  obtain ⟨R1, le⟩ := R.go ht
  obtain ⟨x, hx⟩ : ∃ x, stepOf (9 + r) st.f (ereq (st.cur 0)) = x := ⟨_, rfl⟩
  have hx' : stepOf (par r).n st.f ((kEpoch r).req (st.cur 0)) = x := hx
  rcases R1.step (n := 9 + r) hr1 hr2 rfl ⟨by omega, by omega⟩ hx rfl with ⟨e, l2, left', ll, R2⟩ | ⟨e, l2, D⟩
  · have e1 : (kEpoch r).ends (st.cur 0) (stepOf (par r).n st.f ((kEpoch r).req (st.cur 0))) = false := by rw [hx']; exact e
    have d1 : (stepSt (par r) st 0).done = st.done := by unfold stepSt; simp only [e1]; rfl
    have d2 : (stepSt (par r) st 0).ans = st.ans := by unfold stepSt; simp only [e1]; rfl
    have d3 : (stepSt (par r) st 0).cur 0 = enext r (st.cur 0) x := by unfold stepSt; simp only [e1]; rw [upd_same, hx']; rfl
    refine ⟨t, left', ⟨by rw [d1]; exact R.dn, R.t3, fun j hj => by rw [d2]; exact R.an j hj, fun _ => ⟨?_, by omega⟩⟩⟩
    rw [d3]
    exact R2
  · have e1 : (kEpoch r).ends (st.cur 0) (stepOf (par r).n st.f ((kEpoch r).req (st.cur 0))) = true := by rw [hx']; exact e
    have d1 : (stepSt (par r) st 0).done 0 = t + 1 := by unfold stepSt; simp only [e1]; show upd st.done 0 (st.done 0 + 1) 0 = _; rw [upd_same, R.dn]
    have d2 : (stepSt (par r) st 0).ans 0 = upd (st.ans 0) t (enext r (st.cur 0) x).told := by unfold stepSt; simp only [e1]; show upd st.ans 0 (upd (st.ans 0) (st.done 0) _) 0 = _; rw [upd_same, R.dn, hx']; rfl
    have d3 : (stepSt (par r) st 0).cur 0 = einit ((0 : Nat) : Int) ⟨4, 0, 0, 0, 0⟩ := by unfold stepSt; simp only [e1]; show upd st.cur 0 _ 0 = _; rw [upd_same]; rfl
    refine ⟨t + 1, 11 + 2 * r, ⟨d1, by omega, fun j hj => ?_, fun h3 => ⟨?_, ?_⟩⟩⟩
    · rw [d2]
      by_cases ej : j = t
      · subst ej; rw [upd_same]; exact D.an
      · rw [upd_other _ _ ej]; exact R.an j (by omega)
    · rw [d3]
      exact Rp.init D.out (by rw [show (stepSt (par r) st 0).f 0 = _ from D.f0]; omega) D.pl
    · have e3 : 2 - t = (2 - (t + 1)) + 1 := by omega
      rw [e3, Nat.add_mul] at le
      omega

theorem run_rn {r : Nat} (hr1 : 1 ≤ r) (hr2 : r ≤ 64) {E : Int} (hE : 0 ≤ E ∧ E ≤ 65536) {f g : Nat → Int} (o : ∀ i, i < 8 → f (1 + i) = 0) (h0 : f 0 = E) (hp : ∀ p, p < r → f (9 + p) = g p) : ∀ m, ∃ t left, Rn r E g (runSt (par r) (st0 (kEpoch r) (par r) f) m) m t left
  | 0 => ⟨0, 11 + 2 * r, ⟨rfl, by omega, fun j hj => absurd hj (by omega), fun _ => ⟨Rp.init o (show f 0 = E + ((0 : Nat) : Int) from by rw [h0]; simp) hp, by omega⟩⟩⟩
  | m + 1 => by
    obtain ⟨t, left, R⟩ := run_rn hr1 hr2 hE o h0 hp m
    rcases turn_ok (par r) (runSt (par r) (st0 (kEpoch r) (par r) f) m) with ⟨ht, hc⟩ | ⟨h, ht, hh, hd⟩
    · have t3 : ¬ t < 3 := fun l => by
        have := cnt_zero hc 0 (by show 0 < 1; omega)
        simp only [St.going, decide_eq_false_iff_not] at this
        exact this (by rw [R.dn]; exact l)
      have e : runSt (par r) (st0 (kEpoch r) (par r) f) (m + 1) = runSt (par r) (st0 (kEpoch r) (par r) f) m := by
        show (if _ then _ else _) = _
        rw [if_pos (by rw [ht]; decide)]
      rw [e]
      exact ⟨t, left, R.dn, R.t3, R.an, fun l => absurd l t3⟩
    · have h00 : h = 0 := by have : h < 1 := hh; omega
      subst h00
      have e : runSt (par r) (st0 (kEpoch r) (par r) f) (m + 1) = stepSt (par r) (runSt (par r) (st0 (kEpoch r) (par r) f) m) 0 := runSt_step ht
      rw [e]
      exact R.step hr1 hr2 hE (by have : (runSt (par r) (st0 (kEpoch r) (par r) f) m).done 0 < 3 := hd; rw [R.dn] at this; exact this)

/-- What they told. -/
theorem end_rn {r : Nat} (hr1 : 1 ≤ r) (hr2 : r ≤ 64) {E : Int} (hE : 0 ≤ E ∧ E ≤ 65536) {f g : Nat → Int} (o : ∀ i, i < 8 → f (1 + i) = 0) (h0 : f 0 = E) (hp : ∀ p, p < r → f (9 + p) = g p) :
    (runSt (par r) (st0 (kEpoch r) (par r) f) 1000).done 0 = 3 ∧ ∀ j, j < 3 → (runSt (par r) (st0 (kEpoch r) (par r) f) 1000).ans 0 j = ⟨true, (mk3 r E g j : Int)⟩ := by
  obtain ⟨t, left, R⟩ := run_rn hr1 hr2 hE o h0 hp 1000
  have t3 : t = 3 := by
    rcases Nat.lt_or_ge t 3 with l | l
    · obtain ⟨a, b⟩ := R.go l
      have := a.pos
      omega
    · have := R.t3
      omega
  subst t3
  exact ⟨R.dn, R.an⟩

theorem due_iff {w f : Int} (h : 0 ≤ w ∧ w ≤ 65538) : due w f ↔ ¬ w = 0 ∧ w + 1 ≤ f := by
  unfold due
  rw [u64_id (by omega)]

/-- The bits of those that stand. -/
def all (r : Nat) (g : Nat → Int) : Nat := msk (fun p => decide (¬ g p = 0)) r

theorem three {r : Nat} {E : Int} (hE : 0 ≤ E ∧ E ≤ 65536) {g : Nat → Int} (hg : ∀ p, p < r → 0 ≤ g p ∧ g p ≤ E + 1) : (mk3 r E g 0 ||| mk3 r E g 1) ||| mk3 r E g 2 = all r g ∧ mk3 r E g 0 &&& mk3 r E g 1 = 0 := by
  have b : ∀ p, p < r → (decide (due (gs E g 0 p) (E + ((0 : Nat) : Int) + 1)) = decide (¬ g p = 0 ∧ g p ≤ E)) ∧ (decide (due (gs E g 1 p) (E + ((1 : Nat) : Int) + 1)) = decide (¬ g p = 0 ∧ g p = E + 1)) ∧ (decide (due (gs E g 2 p) (E + ((2 : Nat) : Int) + 1)) = false) := fun p hp => by
    obtain ⟨g1, g2⟩ := hg p hp
    have a0 : due (g p) (E + ((0 : Nat) : Int) + 1) ↔ ¬ g p = 0 ∧ g p + 1 ≤ E + ((0 : Nat) : Int) + 1 := due_iff ⟨g1, by omega⟩
    have v1 : gs E g 1 p = if ¬ g p = 0 ∧ g p ≤ E then 0 else g p := by
      show (if due (g p) (E + ((0 : Nat) : Int) + 1) then 0 else g p) = _
      by_cases c : ¬ g p = 0 ∧ g p ≤ E
      · rw [if_pos c, if_pos (a0.mpr ⟨c.1, by have := c.2; omega⟩)]
      · rw [if_neg c, if_neg (fun d => c ⟨(a0.mp d).1, by have := (a0.mp d).2; omega⟩)]
    have w1 : 0 ≤ gs E g 1 p ∧ gs E g 1 p ≤ 65538 ∧ (gs E g 1 p = 0 ∨ gs E g 1 p = g p) := by rw [v1]; split <;> omega
    have a1 : due (gs E g 1 p) (E + ((1 : Nat) : Int) + 1) ↔ ¬ gs E g 1 p = 0 ∧ gs E g 1 p + 1 ≤ E + ((1 : Nat) : Int) + 1 := due_iff ⟨w1.1, w1.2.1⟩
    have v2 : gs E g 2 p = 0 := by
      show (if due (gs E g 1 p) (E + ((1 : Nat) : Int) + 1) then 0 else gs E g 1 p) = 0
      by_cases c : gs E g 1 p = 0
      · split <;> first | rfl | exact c
      · rw [if_pos (a1.mpr ⟨c, by omega⟩)]
    refine ⟨?_, ?_, ?_⟩
    · show decide (due (g p) _) = _
      congr 1
      apply propext
      rw [a0]
      exact ⟨fun h => ⟨h.1, by omega⟩, fun h => ⟨h.1, by omega⟩⟩
    · congr 1
      apply propext
      rw [a1, v1]
      by_cases c : ¬ g p = 0 ∧ g p ≤ E
      · rw [if_pos c]; exact ⟨fun h => absurd rfl h.1, fun h => by omega⟩
      · rw [if_neg c]; exact ⟨fun h => ⟨h.1, by omega⟩, fun h => ⟨h.1, by omega⟩⟩
    · rw [v2]; simp [due]
  constructor
  · apply Nat.eq_of_testBit_eq
    intro p
    rw [Nat.testBit_or, Nat.testBit_or]
    unfold mk3 all
    rw [msk_bit, msk_bit, msk_bit, msk_bit]
    by_cases l : p < r
    · obtain ⟨b0, b1, b2⟩ := b p l
      have := hg p l
      rw [b0, b1, b2]
      simp only [l, decide_true, Bool.true_and, Bool.or_false]
      rw [← Bool.decide_or]
      congr 1
      apply propext
      omega
    · simp [l]
  · apply Nat.eq_of_testBit_eq
    intro p
    rw [Nat.testBit_and, Nat.zero_testBit]
    unfold mk3
    rw [msk_bit, msk_bit]
    by_cases l : p < r
    · obtain ⟨b0, b1, b2⟩ := b p l
      rw [b0, b1]
      simp only [l, decide_true, Bool.true_and]
      rw [← Bool.decide_and]
      simp
      omega
    · simp [l]
end Epoch
end Go.Proofs.Ytbohmahjpolapaa

namespace Go.Proofs.Ytbohmahjpolapaa
open Go.RowKit
namespace Epoch

theorem bits_or {a b : Nat} (ha : a < 2 ^ 64) (hb : b < 2 ^ 64) : bits .or .u64 (a : Int) (b : Int) = ((a ||| b : Nat) : Int) := by
  have e1 : bits .or .u64 (a : Int) (b : Int) = IntKind.u64.wrap (((BitVec.ofInt 64 (a : Int)) ||| (BitVec.ofInt 64 (b : Int))).toNat : Int) := rfl
  have h := Nat.or_lt_two_pow ha hb
  rw [e1, BitVec.toNat_or, BitVec.ofInt_natCast, BitVec.ofInt_natCast, BitVec.toNat_ofNat, BitVec.toNat_ofNat, Nat.mod_eq_of_lt ha, Nat.mod_eq_of_lt hb, IntKind.wrap_u64]
  omega
theorem bits_and {a b : Nat} (ha : a < 2 ^ 64) (hb : b < 2 ^ 64) : bits .and .u64 (a : Int) (b : Int) = ((a &&& b : Nat) : Int) := by
  have e1 : bits .and .u64 (a : Int) (b : Int) = IntKind.u64.wrap (((BitVec.ofInt 64 (a : Int)) &&& (BitVec.ofInt 64 (b : Int))).toNat : Int) := rfl
  have h := Nat.and_lt_two_pow a hb
  rw [e1, BitVec.toNat_and, BitVec.ofInt_natCast, BitVec.ofInt_natCast, BitVec.toNat_ofNat, BitVec.toNat_ofNat, Nat.mod_eq_of_lt ha, Nat.mod_eq_of_lt hb, IntKind.wrap_u64]
  omega

theorem msk_64 (S : Nat → Bool) {r : Nat} (h : r ≤ 64) : msk S r < 2 ^ 64 := Nat.lt_of_lt_of_le (msk_lt S r) (Nat.pow_le_pow_right (by omega) h)

theorem par_ok {r : Nat} (h2 : r ≤ 64) : Fine (par r) 1000 ∧ AllOk (kEpoch r) (par r) := by
  refine ⟨⟨by show 9 + r ≤ 4096; omega, ?_, by show 0 ≤ 65536; omega, by omega, by omega⟩, fun h hh j hj => ?_⟩
  · rintro (l | ⟨h, hh, l⟩)
    · have : 8 < 1 := l; omega
    · have : 256 < 3 := l; omega
  · have h0 : h < 1 := hh
    obtain rfl : h = 0 := by omega
    show eerr (r : Int) ((0 : Nat) : Int) ⟨4, 0, 0, 0, 0⟩ = 0
    simp [eerr]

variable {w : World} {ao aoh : Option Addr} {cap caph : Nat} {sh : Shp} {r : Nat}

theorem play_end (h1 : 1 ≤ r) (h2 : r ≤ 64) (hs : sh.f = (r : Int)) {E : Int} (hE : 0 ≤ E ∧ E ≤ 65536) {f g : Nat → Int} (hf : ∀ i, i < 9 + r → 0 ≤ f i ∧ f i ≤ 18446744073709551615) (o : ∀ i, i < 8 → f (1 + i) = 0) (h0 : f 0 = E) (hp : ∀ p, p < r → f (9 + p) = g p) (S : Sees w w.heap.size ao (9 + r) f) (SH : SeesH w w.heap.size aoh 1 (fun _ => 3) (fun _ _ => ⟨4, 0, 0, 0, 0⟩)) :
    Calls Try.prog 11 #[sh.val, .slice ao (9 + r) cap, .slice aoh 1 caph, .slice none 0 0, .int .i64 1000] w fun e w' => Below w.heap.size w w' ∧ ∃ sa k sc wa n wc aa ac, e = .returned (tv3 sa k sc wa n wc true aa 1 ac 0) ∧ ∃ b off b' off' cp, aa = some ⟨b, off, none⟩ ∧ b < w'.heap.size ∧ b' < w'.heap.size ∧ w'.cell? ⟨b, off, none⟩ = some (.slice (some ⟨b', off', none⟩) 3 cp) ∧ ∀ j, j < 3 → w'.cell? ⟨b', off' + j * 2 + 1, none⟩ = some (.int .u64 (mk3 r E g j : Int)) := by
  have PA := play_all (w := w) (ao := ao) (aoh := aoh) (aos := none) (cap := cap) (caph := caph) (caps := 0) (P := par r) (f := f) (most := 1000) (sh := sh) (want := 9 + r) (by omega) (by omega) (by rw [hs]; simp) S hf SH (by show 1 ≤ _; omega) (fun j hj => absurd hj (Nat.not_lt_zero j)) (fun h hh j hj => ⟨Int.le_refl 0, by show (0 : Int) ≤ _; decide⟩)
  refine PA.mono fun e w' h => ⟨h.1, ?_⟩
  rw [hs] at h
  rcases h.2 with ⟨er, hle, he⟩ | ⟨hn', hF, hok, v, he, hT⟩
  · rcases hle with ⟨hne, _⟩ | ⟨_, hE'⟩
    · exact absurd rfl hne
    · exact absurd (par_ok h2) hE'.not
  · obtain ⟨hd, ha⟩ := end_rn h1 h2 hE o h0 hp
    obtain ⟨blk, c, g', sv, rfl, H, G, GS, R, hg, hne⟩ := hT
    have SA := seesA_of G.answers H
    have m1 : (1000 : Int).toNat = 1000 := rfl
    rw [m1] at SA GS he
    clear G R PA h hF hok hn'
    generalize runSt (par r) (st0 (kEpoch r) (par r) f) 1000 = st at hd ha SA GS he
    have g0 : St.going (par r) st 0 = false := by
      show decide (st.done 0 < 3) = false
      rw [hd]; rfl
    have ec : decide (cnt (st.going (par r)) (par r).nh = 0) = true := by
      show decide (cnt (st.going (par r)) 1 = 0) = true
      simp [cnt, g0]
    rw [ec] at he
    obtain ⟨sa, sc, rfl⟩ := GS.isSlice
    refine ⟨_, _, _, _, _, _, _, _, he, ?_⟩
    obtain ⟨b, off, av, cp, e1, l1, c1, q1⟩ := SA 0 (by show 0 < 1; omega)
    rw [hd] at c1 q1
    obtain ⟨b', off', e2, l2, -⟩ := q1 0 (by omega)
    subst e2
    refine ⟨b, off, b', off', cp, e1, l1, l2, c1, fun j hj => ?_⟩
    obtain ⟨b2, off2, e3, l3, c3⟩ := q1 j hj
    injection e3 with e3
    injection e3 with e3 e4 _
    subst e3 e4
    have := c3 1 (by omega)
    rw [ha j hj] at this
    exact this
end Epoch
end Go.Proofs.Ytbohmahjpolapaa

namespace Go.Proofs.Ytbohmahjpolapaa
open Go.RowKit
namespace Epoch

/-- The world in which Play is called: reap, and the hands' list with its one hand. -/
abbrev w3j (w : World) : World := ((w.alloc (.cells #[.int .i64 4, .int .i64 0, .int .i64 0, .int .i64 0, .int .u64 0] 50)).alloc (.cells #[.int .i64 4, .int .i64 0, .int .i64 0, .int .i64 0, .int .u64 0, .int .i64 4, .int .i64 0, .int .i64 0, .int .i64 0, .int .u64 0, .int .i64 4, .int .i64 0, .int .i64 0, .int .i64 0, .int .u64 0] 50)).alloc (.cells #[.slice (some ⟨w.heap.size + 1, 0, none⟩) 3 3] 48)
theorem w3j_below (w : World) : Below w.heap.size w (w3j w) :=
  (((Below.refl _ w).alloc (Nat.le_refl _) _).alloc (by simp only [World.size_alloc]; omega) _).alloc (by simp only [World.size_alloc]; omega) _
theorem hands3 (w : World) : SeesH (w3j w) (w3j w).heap.size (some ⟨w.heap.size + 1 + 1, 0, none⟩) 1 (fun _ => 3) (fun _ _ => ⟨4, 0, 0, 0, 0⟩) := by
  have R2 := (rowL_alloc (w.alloc (.cells #[.int .i64 4, .int .i64 0, .int .i64 0, .int .i64 0, .int .u64 0] 50)) [.int .i64 4, .int .i64 0, .int .i64 0, .int .i64 0, .int .u64 0, .int .i64 4, .int .i64 0, .int .i64 0, .int .i64 0, .int .u64 0, .int .i64 4, .int .i64 0, .int .i64 0, .int .i64 0, .int .u64 0] 50 (n := 15) rfl).alloc (.cells #[.slice (some ⟨w.heap.size + 1, 0, none⟩) 3 3] 48)
  have R3 := rowL_alloc ((w.alloc (.cells #[.int .i64 4, .int .i64 0, .int .i64 0, .int .i64 0, .int .u64 0] 50)).alloc (.cells #[.int .i64 4, .int .i64 0, .int .i64 0, .int .i64 0, .int .u64 0, .int .i64 4, .int .i64 0, .int .i64 0, .int .i64 0, .int .u64 0, .int .i64 4, .int .i64 0, .int .i64 0, .int .i64 0, .int .u64 0] 50)) [.slice (some ⟨w.heap.size + 1, 0, none⟩) 3 3] 48 (n := 1) rfl
  simp only [World.size_alloc] at R2 R3
  intro h hh
  obtain rfl : h = 0 := by omega
  refine ⟨w.heap.size + 1 + 1, 0, some ⟨w.heap.size + 1, 0, none⟩, 3, rfl, R3.lt, R3.cell (i := 0) (by decide), fun i hi => ⟨w.heap.size + 1, 0, rfl, R2.lt, fun q hq => ?_⟩⟩
  have hi : i < 3 := hi
  have c := R2.cell (i := 0 + i * 5 + q) (by omega)
  refine c.trans ?_
  have e1 : i = 0 ∨ i = 1 ∨ i = 2 := by omega
  have e2 : q = 0 ∨ q = 1 ∨ q = 2 ∨ q = 3 ∨ q = 4 := by omega
  rcases e1 with rfl | rfl | rfl <;> rcases e2 with rfl | rfl | rfl | rfl | rfl <;> rfl

set_option maxHeartbeats 16000000 in
theorem end_walk {w : World} {sh : Shp} {aw aoh aos : Option Addr} {nw cw caph caps : Nat} {P : Par} {most : Int} {r : Nat} (hr : 1 ≤ sh.f ∧ sh.f ≤ 64 → sh.f = (r : Int) ∧ P.n = 9 + r) (SH : SeesH w w.heap.size aoh P.nh P.jn P.jb) (hn63 : P.nh ≤ 9223372036854775807) (SI : SeesI w w.heap.size aos P.ns P.sched) (hjw : ∀ h, h < P.nh → ∀ j, j < P.jn h → (P.jb h j).wf) :
    Calls Try.prog 5 #[.agg #[.int .i64 sh.a, .int .i64 sh.b, .int .i64 sh.c, .int .i64 sh.d, .int .i64 sh.e, .int .i64 sh.f, .slice aw nw cw, .slice aoh P.nh caph, .slice aos P.ns caps, .int .i64 most]] w fun e w' => e = .returned (.bool true) ∧ Below w.heap.size w w' := by
  have AL := hide alive_any
  have FR := hide (fun (w1 : World) (B1 : Below w.heap.size w w1) => fresh_any (w := w1) (aw := aw) (nw := nw) (cw := cw) (caph := caph) (caps := caps) (most := most) (sh := sh) (P := P) (fun h => by rw [(hr h).1, (hr h).2]; simp) ((SH.below B1 (Nat.le_refl _)).up B1.size) hn63 ((SI.below B1 (Nat.le_refl _)).up B1.size) hjw)
  have SE0 := hide (fun base er sa k sc wa n wc en aa m ac (w' : World) (h : TB sh P most base er sa k sc wa n wc en aa m ac w') => And.intro (se_of hr h) (fun h0 : er = 0 => (hr (h h0).1).1))
  have HR := hide hr
  have HSH := hide SH
  have HJW := hide hjw
  obtain ⟨TBx, hTB⟩ : ∃ TBx, TB sh P most = TBx := ⟨_, rfl⟩
  rw [hTB] at FR SE0
  obtain ⟨s0, s1, s2, s3, s4, s5⟩ := sh
  simp only at FR HR ⊢
  clear SH SI hjw hn63 hr hTB
  obtain ⟨W0, hW0⟩ : ∃ W0, w.alloc (.cells #[.int .i64 s0, .int .i64 s1, .int .i64 s2, .int .i64 s3, .int .i64 s4, .int .i64 s5, .slice aw nw cw, .slice aoh P.nh caph, .slice aos P.ns caps, .int .i64 most] 28) = W0 := ⟨_, rfl⟩
  have R0 : W0.rowIs w.heap.size 28 10 (lrow [.int .i64 s0, .int .i64 s1, .int .i64 s2, .int .i64 s3, .int .i64 s4, .int .i64 s5, .slice aw nw cw, .slice aoh P.nh caph, .slice aos P.ns caps, .int .i64 most]) := by rw [← hW0]; exact rowL_alloc w [.int .i64 s0, .int .i64 s1, .int .i64 s2, .int .i64 s3, .int .i64 s4, .int .i64 s5, .slice aw nw cw, .slice aoh P.nh caph, .slice aos P.ns caps, .int .i64 most] _ rfl
  have B0 : Below w.heap.size w W0 := by rw [← hW0]; exact (Below.refl _ w).alloc (Nat.le_refl _) _
  have z0 : W0.heap.size = w.heap.size + 1 := by rw [← hW0]; simp
  have keep : Hid (∀ w' : World, Below W0.heap.size W0 w' → Below w.heap.size w w' ∧ w.heap.size < w'.heap.size ∧ w'.cell? ⟨w.heap.size, 0, none⟩ = some (.int .i64 s0) ∧ w'.cell? ⟨w.heap.size, 1, none⟩ = some (.int .i64 s1) ∧ w'.cell? ⟨w.heap.size, 2, none⟩ = some (.int .i64 s2) ∧ w'.cell? ⟨w.heap.size, 3, none⟩ = some (.int .i64 s3) ∧ w'.cell? ⟨w.heap.size, 4, none⟩ = some (.int .i64 s4) ∧ w'.cell? ⟨w.heap.size, 5, none⟩ = some (.int .i64 s5) ∧ w'.cell? ⟨w.heap.size, 6, none⟩ = some (.slice aw nw cw) ∧ w'.cell? ⟨w.heap.size, 7, none⟩ = some (.slice aoh P.nh caph) ∧ w'.cell? ⟨w.heap.size, 8, none⟩ = some (.slice aos P.ns caps) ∧ w'.cell? ⟨w.heap.size, 9, none⟩ = some (.int .i64 most)) := fun w' hb => by
    have q := R0.of_block (hb.block w.heap.size R0.lt)
    exact ⟨B0.trans (hb.mono B0.size), q.lt, q.cell (i := 0) (by decide), q.cell (i := 1) (by decide), q.cell (i := 2) (by decide), q.cell (i := 3) (by decide), q.cell (i := 4) (by decide), q.cell (i := 5) (by decide), q.cell (i := 6) (by decide), q.cell (i := 7) (by decide), q.cell (i := 8) (by decide), q.cell (i := 9) (by decide)⟩
  have HZ := hide z0
  clear R0 B0 z0
  go_enter Try.func5, Try.ntmps5
  go_wp2_with fail
  refine (AL.out W0).mono ?_
  rintro e w1 ⟨rfl, hb1⟩
  have B1 := hide hb1
  clear hb1 hW0 AL
  obtain ⟨Bw1, l1, c0, c1, c2, c3, c4, c5, c6, c7, c8, c9⟩ := keep.out w1 B1.out
  have HBw1 := hide Bw1
  clear Bw1
  go_wp2_with fail
  refine (FR.out w1 HBw1.out).mono ?_
  rintro e w2 ⟨hb2, sa, k, sc, wa, n, wc, en, aa, m, ac, er, rfl, hT⟩
  have SEv := hide (SE0.out _ _ _ _ _ _ _ _ _ _ _ _ _ hT)
  have B2 := hide (B1.out.trans (hb2.mono B1.out.size))
  clear hb2 hT SE0 FR HBw1 c0 c1 c2 c3 c4 c5 c6 c7 c8 c9 l1
  have s02 := B2.out.size
  obtain ⟨W3, hW3⟩ : ∃ W3, w2.alloc (.cells #[.slice sa k sc, .slice wa n wc, .bool en] 32) = W3 := ⟨_, rfl⟩
  have R3 := hide (show W3.rowIs w2.heap.size 32 3 (lrow [.slice sa k sc, .slice wa n wc, .bool en]) from by rw [← hW3]; exact rowL_alloc w2 [.slice sa k sc, .slice wa n wc, .bool en] _ rfl)
  have B23 := hide (show Below w2.heap.size w2 W3 from by rw [← hW3]; exact (Below.refl _ w2).alloc (Nat.le_refl _) _)
  have B3 := hide (B2.out.trans (B23.out.mono B2.out.size))
  clear s02
  go_upto_region 4 with (fail)
  try rw [hW3]
  clear hW3
  obtain ⟨-, l1, c0, c1, c2, c3, c4, c5, c6, c7, c8, c9⟩ := keep.out W3 B3.out
  by_cases he : er = 0
  · subst he
    obtain ⟨SE1, e5⟩ := SEv.out
    obtain ⟨⟨h1, h2⟩, hPn, hm0, hnh, hjn, hdl, hok, hk, hm, hn, hen, SS, SW, SA⟩ := SE1 rfl
    have e5 := e5 rfl
    subst e5
    obtain rfl : n = 9 + r := hn.trans hPn
    subst hm
    rw [hPn] at SW
    have hJ : Jok r P := fun h hh j hj => ⟨hok h hh j hj, HJW.out h hh j hj⟩
    obtain ⟨m0, hm0'⟩ : ∃ m0, most.toNat = m0 := ⟨_, rfl⟩
    rw [hm0'] at hm0 hdl hk hen SS SW SA
    have hK65 : k ≤ 65536 := by rw [hk]; have := (runSt_k P (st0 (kEpoch r) P (fun _ => 0)) rfl m0).1; show (runSt P (st0 (kEpoch r) P (fun _ => 0)) m0).k ≤ 65536; omega
    have GB := hide (fun (p : Nat) (hp : p < r) => run_gb h1 h2 hPn hJ hm0 (m := m0) hp)
    have IV := hide (run_iv h1 h2 hPn hJ m0 hm0)
    obtain ⟨f, hf⟩ : ∃ f, (rn r P m0).f = f := ⟨_, rfl⟩
    have FB := hide (fun (i : Nat) (hi : i < 9 + r) => show 0 ≤ f i ∧ f i ≤ 18446744073709551615 from by rw [← hf]; exact IV.out.wd i (by rw [hPn]; exact hi))
    have F0B := hide (show 0 ≤ f 0 ∧ f 0 ≤ 65536 from by rw [← hf]; have := IV.out.f0; exact ⟨this.1, by omega⟩)
    rw [hf] at SW GB
    have SWh := hide SW
    have WD := hide (fun (i : Nat) (hi : i < 9 + r) => show ∃ b off, wa = some ⟨b, off, none⟩ ∧ b < W3.heap.size ∧ W3.cell? ⟨b, off + i, none⟩ = some (.int .u64 (f i)) from by
      obtain ⟨b, off, e, l, c⟩ := SW i hi
      exact ⟨b, off, e, Nat.lt_of_lt_of_le l B23.out.size, (B23.out.cell (p := ⟨b, off + i, none⟩) l).trans c⟩)
    have t1 : W3.cell? ⟨w2.heap.size, 1, none⟩ = some (.slice wa (9 + r) wc) := R3.out.cell (i := 1) (by decide)
    have t2 : W3.cell? ⟨w2.heap.size, 2, none⟩ = some (.bool en) := R3.out.cell (i := 2) (by decide)
    have lt3 := R3.out.lt
    obtain ⟨bw, ow, hwa, lw, -⟩ := WD.out 0 (by omega)
    subst hwa
    have WC := hide (fun (i : Nat) (hi : i < 9 + r) => show W3.cell? ⟨bw, ow + i, none⟩ = some (.int .u64 (f i)) from by
      obtain ⟨b, off, e, l, c⟩ := WD.out i hi
      injection e with e
      injection e with e e' _
      subst e e'
      exact c)
    clear WD IV SE1 SEv SS SW SA hok hjn hdl hen hk hm0 hm0' hJ hPn hn HJW HR hf c0 c1 c2 c3 c4 c6 c7 c8 c9 hK65
    cases en with
    | false =>
      go_wp2_with fail
      go_ret
      exact ⟨rfl, (keep.out _ B3.out).1⟩
    | true =>
      go_wp2_with fail
      go_loopw [7] (fun v7 wr => ∃ i : Nat, i ≤ 8 ∧ v7 = .int .i64 (i : Int) ∧ wr = W3 ∧ ∀ j, j < i → f (1 + j) = 0) (fun v7 _ => 8 - (intOf v7).toNat)
      case atStart => exact ⟨0, Nat.zero_le _, rfl, rfl, fun j hj => absurd hj (Nat.not_lt_zero j)⟩
      case round =>
        obtain ⟨i, hi, rfl, rfl, hz⟩ := hrel
        have HZ0 := hide hz
        clear hz
        obtain ⟨W4, hW4⟩ : ∃ W4, W4 = wr := ⟨_, rfl⟩
        subst hW4
        by_cases hlt : i < 8
        · have hlt' : (i : Int) < 8 := by omega
          have p0 := WC.out (1 + i) (by omega)
          have q1 : (1 : Int) + (i : Int) < 9 + (r : Int) := by omega
          have q2 : (0 : Int) ≤ 1 + (i : Int) := by omega
          have q3 : ((1 : Int) + (i : Int)).toNat = 1 + i := by omega
          obtain ⟨fi, hfi⟩ : ∃ fi, f (1 + i) = fi := ⟨_, rfl⟩
          rw [hfi] at p0
          have HFI := hide hfi
          clear hfi
          by_cases hq : fi = 0
          · subst hq
            go_wp2_with fail
            go_roundw
            case rel => exact ⟨i + 1, hlt, vi_b, trivial, fun j hj => by
              rcases Nat.lt_or_ge j i with l | l
              · exact HZ0.out j l
              · obtain rfl : j = i := by omega
                exact HFI.out⟩
            case measure => exact meas_b hlt
          · have hq' : (fi != 0) = true := by simpa using hq
            clear hq
            go_wp2_with fail
            go_ret
            exact ⟨rfl, (keep.out _ B3.out).1⟩
        · have hlt' : ¬ (i : Int) < 8 := by omega
          obtain rfl : i = 8 := by omega
          clear hlt hlt' hi
          obtain ⟨S, hS⟩ : ∃ S : Nat → Bool, (fun p => decide (¬ f (9 + p) = 0)) = S := ⟨_, rfl⟩
          have HS := hide (fun p => congrFun hS p)
          clear hS
          go_wp2_with fail
          go_loopw [6, 8] (fun v6 v8 wr => ∃ i : Nat, i ≤ r ∧ v8 = .int .i64 (i : Int) ∧ v6 = .int .u64 (msk S i : Int) ∧ wr = W4) (fun _ v8 _ => r - (intOf v8).toNat)
          case atStart => exact ⟨0, Nat.zero_le _, rfl, rfl, rfl⟩
          case round =>
            obtain ⟨i, hi, rfl, rfl, rfl⟩ := hrel
            by_cases hlt : i < r
            · have hlt' : (i : Int) < (r : Int) := by omega
              have p0 := WC.out (9 + i) (by omega)
              have q1 : (9 : Int) + (i : Int) < 9 + (r : Int) := by omega
              have q2 : (0 : Int) ≤ 9 + (i : Int) := by omega
              have q3 : ((9 : Int) + (i : Int)).toNat = 9 + i := by omega
              have q4 : i < 64 := by omega
              obtain ⟨fi, hfi⟩ : ∃ fi, f (9 + i) = fi := ⟨_, rfl⟩
              have sI := HS.out i
              rw [hfi] at p0 sI
              obtain ⟨mi, hmi⟩ : ∃ mi, (msk S i : Int) = mi := ⟨_, rfl⟩
              have mb : 0 ≤ mi ∧ mi ≤ 18446744073709551615 := by rw [← hmi]; have := msk_64 S (show i ≤ 64 by omega); omega
              clear hfi
              by_cases hq : fi = 0
              · subst hq
                have e2 : (msk S (i + 1) : Int) = mi := by
                  rw [← hmi]
                  show ((if S i = true then msk S i ||| 2 ^ i else msk S i : Nat) : Int) = _
                  rw [if_neg (by rw [← sI]; simp)]
                have E2 := hide e2
                rw [hmi]
                clear e2 hmi sI mb
                go_wp2_with fail
                go_roundw
                case rel => exact ⟨i + 1, hlt, vi_b, by rw [E2.out], trivial⟩
                case measure => exact meas_b hlt
              · have hq' : (fi != 0) = true := by simpa using hq
                have e2 : bits .or .u64 mi (IntKind.u64.wrap (2 ^ i)) = (msk S (i + 1) : Int) := by
                  rw [← mput_msk S i (by rw [← sI]; simpa using hq), ← hmi, ← mput_bits (by rw [hmi]; exact mb) ⟨by omega, by omega⟩]
                  rw [Int.toNat_natCast]
                have E2 := hide e2
                rw [hmi]
                clear e2 hmi sI hq mb
                go_wp2_with fail
                go_roundw
                case rel => exact ⟨i + 1, hlt, vi_b, by rw [← E2.out], trivial⟩
                case measure => exact meas_b hlt
            · have hlt' : ¬ (i : Int) < (r : Int) := by omega
              obtain rfl : r = i := by omega
              clear hlt hlt' hi
              obtain ⟨-, l1, c0, c1, c2, c3, c4, c5, -, -, -, -⟩ := keep.out _ B3.out
              obtain ⟨W5, hW5⟩ : ∃ W5, W5 = wr := ⟨_, rfl⟩
              subst hW5
              have PL := hide (show Calls Try.prog 11 #[.agg #[.int .i64 s0, .int .i64 s1, .int .i64 s2, .int .i64 s3, .int .i64 s4, .int .i64 (r : Int)], .slice (some ⟨bw, ow, none⟩) (9 + r) wc, .slice (some ⟨W5.heap.size + 1 + 1, 0, none⟩) 1 1, .slice none 0 0, .int .i64 1000] (w3j W5) _ from
                play_end (w := w3j W5) (caph := 1) (cap := wc) (sh := ⟨s0, s1, s2, s3, s4, (r : Int)⟩) (E := f 0) (f := f) (g := fun p => f (9 + p)) h1 h2 rfl F0B.out FB.out HZ0.out rfl (fun p hp => rfl) ((SWh.out.below (B23.out.trans ((w3j_below W5).mono B23.out.size)) (Nat.le_refl _)).mono (B23.out.trans ((w3j_below W5).mono B23.out.size)).size) (hands3 W5))
              obtain ⟨th1, th2⟩ := three (r := r) F0B.out (g := fun p => f (9 + p)) (fun p hp => ⟨(FB.out (9 + p) (by omega)).1, GB.out p hp⟩)
              have hal : all r (fun p => f (9 + p)) = msk S r := msk_congr fun p hp => HS.out p
              rw [hal] at th1
              have k0 := msk_64 (fun p => decide (due (gs (f 0) (fun p => f (9 + p)) 0 p) (f 0 + ((0 : Nat) : Int) + 1))) h2
              have k1 := msk_64 (fun p => decide (due (gs (f 0) (fun p => f (9 + p)) 1 p) (f 0 + ((1 : Nat) : Int) + 1))) h2
              have k2 := msk_64 (fun p => decide (due (gs (f 0) (fun p => f (9 + p)) 2 p) (f 0 + ((2 : Nat) : Int) + 1))) h2
              have o1 := bits_or k0 k1
              have o2 := bits_or (Nat.or_lt_two_pow k0 k1) k2
              have o3 := bits_and k0 k1
              have o2' := o2.trans (congrArg (fun x : Nat => (x : Int)) th1)
              have o3' := o3.trans (congrArg (fun x : Nat => (x : Int)) th2)
              have OO := hide (show bits .or .u64 (mk3 r (f 0) (fun p => f (9 + p)) 0 : Int) (mk3 r (f 0) (fun p => f (9 + p)) 1 : Int) = ((mk3 r (f 0) (fun p => f (9 + p)) 0 ||| mk3 r (f 0) (fun p => f (9 + p)) 1 : Nat) : Int) ∧ bits .or .u64 ((mk3 r (f 0) (fun p => f (9 + p)) 0 ||| mk3 r (f 0) (fun p => f (9 + p)) 1 : Nat) : Int) (mk3 r (f 0) (fun p => f (9 + p)) 2 : Int) = (msk S r : Int) ∧ bits .and .u64 (mk3 r (f 0) (fun p => f (9 + p)) 0 : Int) (mk3 r (f 0) (fun p => f (9 + p)) 1 : Int) = 0 from ⟨o1, o2', o3'⟩)
              clear o1 o2 o3 o2' o3' k0 k1 k2 th1 th2 hal HS
              go_wp2_with fail
              refine PL.out.mono ?_
              rintro e w6 ⟨hb6, sa2, k2, sc2, wa2, n2, wc2, aa2, ac2, rfl, b, off, b', off', cp, rfl, lb, lb', cb, cj⟩
              have BW6 := hide ((keep.out _ B3.out).1.trans (((w3j_below W5).trans (hb6.mono (w3j_below W5).size)).mono ((keep.out _ B3.out).1.size)))
              have hj0 := cj 0 (by omega)
              have hj1 := cj 1 (by omega)
              have hj2 := cj 2 (by omega)
              obtain ⟨oo1, oo2, oo3⟩ := OO.out
              obtain ⟨a01, ha01⟩ : ∃ x : Int, ((mk3 r (f 0) (fun p => f (9 + p)) 0 ||| mk3 r (f 0) (fun p => f (9 + p)) 1 : Nat) : Int) = x := ⟨_, rfl⟩
              rw [ha01] at oo1 oo2
              obtain ⟨a0, ha0⟩ : ∃ x : Int, (mk3 r (f 0) (fun p => f (9 + p)) 0 : Int) = x := ⟨_, rfl⟩
              obtain ⟨a1, ha1⟩ : ∃ x : Int, (mk3 r (f 0) (fun p => f (9 + p)) 1 : Int) = x := ⟨_, rfl⟩
              obtain ⟨a2, ha2⟩ : ∃ x : Int, (mk3 r (f 0) (fun p => f (9 + p)) 2 : Int) = x := ⟨_, rfl⟩
              rw [ha0] at oo1 oo3 hj0
              rw [ha1] at oo1 oo3 hj1
              rw [ha2] at oo2 hj2
              obtain ⟨W7, hW7⟩ : ∃ W7, w6.alloc (.cells #[.slice sa2 k2 sc2, .slice wa2 n2 wc2, .bool true] 32) = W7 := ⟨_, rfl⟩
              have B67 : Below w6.heap.size w6 W7 := by rw [← hW7]; exact (Below.refl _ w6).alloc (Nat.le_refl _) _
              have R7 : W7.rowIs w6.heap.size 32 3 (lrow [.slice sa2 k2 sc2, .slice wa2 n2 wc2, .bool true]) := by rw [← hW7]; exact rowL_alloc w6 [.slice sa2 k2 sc2, .slice wa2 n2 wc2, .bool true] _ rfl
              have BW7 := hide (BW6.out.trans (B67.mono BW6.out.size))
              have y2 : W7.cell? ⟨w6.heap.size, 2, none⟩ = some (.bool true) := R7.cell (i := 2) (by decide)
              have y3 := R7.lt
              have cb7 := (B67.cell (p := ⟨b, off, none⟩) lb).trans cb
              have g0 : W7.cell? ⟨b', off' + 1, none⟩ = some (.int .u64 a0) := (B67.cell (p := ⟨b', off' + 1, none⟩) lb').trans (by simpa using hj0)
              have g1 : W7.cell? ⟨b', off' + 2 + 1, none⟩ = some (.int .u64 a1) := (B67.cell (p := ⟨b', off' + 2 + 1, none⟩) lb').trans (by simpa using hj1)
              have g2 : W7.cell? ⟨b', off' + 4 + 1, none⟩ = some (.int .u64 a2) := (B67.cell (p := ⟨b', off' + 4 + 1, none⟩) lb').trans (by simpa using hj2)
              have lb7 : b < W7.heap.size := Nat.lt_of_lt_of_le lb B67.size
              have lb7' : b' < W7.heap.size := Nat.lt_of_lt_of_le lb' B67.size
              obtain ⟨M, hM⟩ : ∃ M : Int, (msk S r : Int) = M := ⟨_, rfl⟩
              rw [hM] at oo2
              clear ha01 ha0 ha1 ha2 hj0 hj1 hj2 cj cb PL OO hb6 B67 R7 lb lb' c0 c1 c2 c3 c4 c5 l1 t1 t2 lt3 lw HZ0 WC FB F0B GB SWh B23 R3
              unfold tv3
              go_upto_region 19 with (fail)
              try rw [hW7]
              try rw [hM]
              clear hW7 hM
              go_upto_region 21 with (fail)
              go_quiet (fail)
              go_wp2_with fail
              go_ret
              exact ⟨rfl, below_drewN BW7.out _⟩
  · have he' : (er == 0) = false := by simpa using he
    go_wp2_with fail
    go_ret
    exact ⟨rfl, (keep.out _ B3.out).1⟩
end Epoch
end Go.Proofs.Ytbohmahjpolapaa

namespace Go.Proofs.Ytbohmahjpolapaa
open Go.ChangeShapes Go.WideShapes Go.ChangeAt Go.RowKit Go.Deep
namespace EOnceLaw

theorem list1' {α : Type} {l : List α} (h : l.length = 1) : ∃ a, l = [a] := by
  match l, h with
  | [a], _ => exact ⟨a, rfl⟩

theorem isLaw : Lift.IsLaw Rows.epochEndSpec 1 := ⟨rfl, fun H ds h => by obtain ⟨a, rfl⟩ := list1' h; rfl⟩

theorem lifted (os : Os) (started : os.Started) (H : Type) (enc : TypeId × Value → H) :
    ReturnsInHanded {} Try.checked os 5 .any (Rows.epochEndSpec.pre6 enc Try.prog Try.f5 Rows.epochEndRow.domain false) (Rows.epochEndSpec.post enc Try.prog Try.f5 false true false false) := by
  refine returnsInHanded_of_change_sized (C := Try.checked) Lift.own started (by kernel_rfl) Try.func5
    (ChangeSpec.witness6 (enc := enc) (C := Try.checked) false ⟨#[], #[.agg #[.int .i64 0, .int .i64 0, .int .i64 0, .int .i64 0, .int .i64 0, .int .i64 0, .slice none 0 0, .slice none 0 0, .slice none 0 0, .int .i64 0]], []⟩ 8 (by kernel_rfl) (by kernel_rfl) (by kernel_rfl) (by kernel_rfl)) ?_
  intro W base args ds gs before hval0 hW hcnd hsz0 _
  have hgs : gs = [] := by
    obtain ⟨_, _, _, hV, _⟩ := hW
    exact (trodVars_none hV).1
  subst hgs
  refine Lift.contract enc (tb := 4) isLaw (by kernel_rfl) (by kernel_rfl) Try.underlying4 W args ds [] before hW ?_
  intro p hA0
  have hval : ∀ (j : Nat) t v, Try.f5.params[j]? = some t → args[j]? = some v → Value.okWide Try.prog W .any base t v := hval0
  have hA : DataW.TrodAll enc Try.prog W 0 (fun _ => true) true Try.f5.params.toList args.toList ds p := hA0
  rw [Try.params5] at hA hval
  obtain ⟨v0, vs0, d0, ds0, p0, q0, hargs0, rfl, rfl, k0, hA1⟩ := trodAll_cons hA
  obtain ⟨rfl, rfl, rfl⟩ := trodAll_nil hA1
  obtain rfl : args = #[v0] := by cases args; simp_all
  obtain ⟨sh, ao, n, cap, f, aoh, nh, caph, jn, jb, aos, ns, caps, sch, most, rfl, hnil, _, hs, hf, hn63, hh, hjw, hi⟩ := open_run11 (hval 0 28 v0 rfl rfl) k0
  exact Epoch.end_walk (P := ⟨9 + sh.f.toNat, nh, jn, jb, ns, sch⟩) (r := sh.f.toNat) (fun h => ⟨by omega, rfl⟩) hh (by unfold maxLen at hn63; omega) hi hjw
end EOnceLaw

theorem epochEnd_holds : Rows.EpochEndSaid :=
  OpenClaim.holds_of_wide 5 Try.f5 rfl rfl rfl rfl rfl rfl rfl ⟨rfl, rfl, rfl, rfl, rfl⟩ rfl rfl rfl rfl rfl (by kernel_rfl) Try.func5 (by kernel_rfl)
    (of_decide_eq_true (by kernel_rfl)) (by unfold Func.isWrapper; first | (rw [if_pos (by decide +kernel)]; kernel_rfl) | (rw [if_neg (by decide +kernel)]; exact ⟨rfl, rfl⟩))
    (fun os started H enc _ => EOnceLaw.lifted os started H enc)
#print axioms epochEnd_holds
end Go.Proofs.Ytbohmahjpolapaa
