/-
  Lemmas: DealPN, DealPS, DealPK, ListW.
-/
import Derived.Test.YtdgolkdedghajaaTq34
import Derived.Test.YtdgolkdedghajaaTq19
import Derived.Test.YtdgolkdedghajaaTq05
import Derived.Test.YtdgolkdedghajaaTq07
import Derived.Test.YtdgolkdedghajaaTq03
/-
  DealOrder, without a program: what stands between top and bottom rises, and all that was stolen was less.
-/
namespace Go.Proofs.Ytdgolkdedghajaa
open Go.RowKit
set_option linter.unusedVariables false
set_option linter.unusedSimpArgs false
set_option maxRecDepth 20000
namespace Deal

variable {r : Nat} {P : Par} {f f' : Nat → Int} {done : Nat → Nat} {cur : Nat → DeS} {B U B' U' : Int} {pd pd' : List Int} {k h : Nat}

/-- Bottom, as the words and hand 0 tell it. -/
def bt (P : Par) (f : Nat → Int) (done : Nat → Nat) (cur : Nat → DeS) : Int := if done 0 < P.jn 0 ∧ (cur 0).j.kind = 2 ∧ 2 ≤ (cur 0).st then u64 (f 1 + 1) else f 1

theorem bt_u {b : Int} (h : 0 ≤ b ∧ b ≤ 100000) : u64 (u64 (b - 1) + 1) = b := by unfold u64; omega

theorem bot_of (z : 0 < P.nh) (hk : k ≤ 65536) (D : Dv r P f done cur B U pd k) : B = bt P f done cur := by
  have b := D.b
  have H := D.hd 0 z
  unfold bt
  by_cases g : done 0 < P.jn 0 ∧ ¬ (cur 0).j.kind = 3
  · rcases H.2.2.1 rfl g.1 g.2 with ⟨k1, eU, ep, f1, tl, w⟩ | ⟨k2, w⟩
    · rw [if_neg (by omega)]; exact f1.symm
    · rcases w with ⟨st, f1, eU, ep, tl⟩ | ⟨st, f1, en, eU, ep, tl⟩ | ⟨st, f1, en, eU, ep, tl⟩ | ⟨st, f1, en, p0, p1, eU, ep, tl⟩ | ⟨st, f1, en, p0, p1, p2, eU, ep, tl⟩ | ⟨st, f1, en, p0, p1, p2, sv, eU, ep, tl⟩ | ⟨st, f1, en, p0, eU, ep⟩
      · rw [if_neg (by omega)]; exact f1.symm
      · rw [if_neg (by omega)]; exact f1.symm
      all_goals
        rw [if_pos ⟨g.1, k2, by omega⟩, f1]
        exact (bt_u ⟨by omega, by omega⟩).symm
  · rw [if_neg (fun t => g ⟨t.1, by omega⟩)]
    exact (H.2.2.2 rfl (by
      by_cases g1 : done 0 < P.jn 0
      · exact .inr (Decidable.of_not_not fun t => g ⟨g1, t⟩)
      · exact .inl g1)).1.symm

/-- What a step does to what stands between top and bottom. -/
def Mv (r : Nat) (f f' : Nat → Int) (B B' : Int) (h : Nat) (s : DeS) (en : Bool) (a : Ans) : Prop :=
  f 0 ≤ f' 0 ∧ (s.j.kind = 3 → en = true → a.ok = true → a.val = f (sl r (f 0)) ∧ f' 0 = f 0 + 1 ∧ f 0 < B) ∧
  ((B' ≤ B ∧ ∀ p : Int, f 0 ≤ p → p < B → f' (sl r p) = f (sl r p)) ∨ (B' = B + 1 ∧ f' 0 = f 0 ∧ en = true ∧ s.j.kind = 1 ∧ h = 0 ∧ f' (sl r B) = s.val ∧ ∀ p : Int, f 0 ≤ p → p < B → f' (sl r p) = f (sl r p)))

set_option maxHeartbeats 2000000 in
theorem mv_ok (hr1 : 1 ≤ r) (hr2 : r ≤ 64) (hn : P.n = 2 + r) (hk : k ≤ 65535) (D : Dv r P f done cur B U pd k) (hh : h < P.nh) (hd : done h < P.jn h) {x : Stp} (hx : stepOf P.n f (dreq r (cur h)) = x) (hf : wordsOf P.n f (dreq r (cur h)) = f')
    (D' : Dv r P f' (if dends r (cur h) x = true then upd done h (done h + 1) else done) (upd cur h (if dends r (cur h) x = true then dinit (h : Int) (P.jb h (done h + 1)) else dnext r (cur h) x)) B' U' pd' (k + 1)) :
    Mv r f f' B B' h (cur h) (dends r (cur h) x) (dnext r (cur h) x).told := by
  have z : 0 < P.nh := by omega
  have e1 := bot_of z (by omega) D
  have e2 := bot_of z (by omega) D'
  have b := D.b
  have H := D.hd h hh
  obtain ⟨hha, hkd⟩ := H.1 hd
  have jn : ∀ y, (dnext r (cur h) y).j = (cur h).j := fun y => dnext_j r (cur h) y
  have w0 : ∀ v, ∀ p : Int, putF f 0 v (sl r p) = f (sl r p) := fun v p => putF_other (by have := sl_lo hr1 p; omega)
  have w1 : ∀ v, ∀ p : Int, putF f 1 v (sl r p) = f (sl r p) := fun v p => putF_other (by have := sl_lo hr1 p; omega)
  rcases hkd with k3 | ⟨h0, k12⟩
  · have S := H.2.1 hd k3
    -- bottom stays
    have eb : f' 1 = f 1 → B' = B := fun g1 => by
      rw [e1, e2]
      unfold bt
      by_cases e : h = 0
      · subst e
        have n2 : ¬ (cur 0).j.kind = 2 := by omega
        have hB : ¬ (done 0 < P.jn 0 ∧ (cur 0).j.kind = 2 ∧ 2 ≤ (cur 0).st) := fun t => n2 t.2.1
        rw [upd_same]
        cases c : dends r (cur 0) x with
        | true =>
          rw [if_pos rfl, if_pos rfl, if_neg hB, if_neg, g1]
          intro t
          have : (2 : Int) ≤ 0 := t.2.2
          omega
        | false =>
          have ne : ¬ (false = true) := by simp
          rw [if_neg ne, if_neg ne, if_neg hB, if_neg, g1]
          intro t
          rw [jn] at t
          exact n2 t.2.1
      · have d0 : (if dends r (cur h) x = true then upd done h (done h + 1) else done) 0 = done 0 := by
          split
          · exact upd_other _ _ (fun t => e t.symm)
          · rfl
        rw [d0, upd_other _ _ (fun t => e t.symm), g1]
    rcases S.step hr1 hr2 hn (by omega) D.b (D.f1 (by omega)) k3 hx hf with ⟨en, ef, S'⟩ | ⟨en, ef, tl⟩ | ⟨en, ef, lt, tl⟩
    · subst ef
      exact ⟨Int.le_refl _, fun _ e => (by rw [en] at e; cases e), .inl ⟨by rw [eb rfl]; exact Int.le_refl _, fun _ _ _ => rfl⟩⟩
    · subst ef
      exact ⟨Int.le_refl _, fun _ _ o => (by rw [tl] at o; cases o), .inl ⟨by rw [eb rfl]; exact Int.le_refl _, fun _ _ _ => rfl⟩⟩
    · have g1 : f' 1 = f 1 := by rw [ef]; exact putF_other (by omega)
      have g0 : f' 0 = f 0 + 1 := by rw [ef]; exact putF_same
      exact ⟨by omega, fun _ _ _ => ⟨by rw [tl], g0, by omega⟩, .inl ⟨by rw [eb g1]; exact Int.le_refl _, fun p _ _ => by rw [ef]; exact w0 _ p⟩⟩
  · subst h0
    have O := H.2.2.1 rfl hd (by omega)
    have n3 : ¬ (cur 0).j.kind = 3 := by omega
    -- bottom behind a step that ends the job, and behind one that does not
    have ee : dends r (cur 0) x = true → B' = f' 1 := fun c => by
      rw [e2]
      unfold bt
      rw [upd_same, c, if_pos rfl, if_pos rfl, if_neg]
      intro t
      have : (2 : Int) ≤ 0 := t.2.2
      omega
    have eg : dends r (cur 0) x = false → B' = if (cur 0).j.kind = 2 ∧ 2 ≤ (dnext r (cur 0) x).st then u64 (f' 1 + 1) else f' 1 := fun c => by
      rw [e2]
      unfold bt
      have ne : ¬ (false = true) := by simp
      rw [upd_same, c, if_neg ne, if_neg ne, jn]
      by_cases t : (cur 0).j.kind = 2 ∧ 2 ≤ (dnext r (cur 0) x).st
      · rw [if_pos ⟨hd, t⟩, if_pos t]
      · rw [if_neg (fun q => t q.2), if_neg t]
    rcases O with ⟨k1, eU, ep, f1, tl, w⟩ | ⟨k2, w⟩
    · have n2 : ¬ (cur 0).j.kind = 2 := by omega
      have eb : f' 1 = f 1 → B' = B := fun g1 => by
        by_cases c : dends r (cur 0) x = true
        · rw [ee c, g1, f1]
        · rw [eg (by simpa using c), if_neg (fun t => n2 t.1), g1, f1]
      rcases w with st | ⟨st, en⟩ | ⟨st, en, br⟩ | ⟨st, en, br, sv⟩
      · have e4 : dreq r (cur 0) = ⟨(cur 0).hand, 1, ((1 : Nat) : Int), 0, 0, true⟩ := by simp [dreq, k1, st]
        rw [e4, ld_words _ (by omega)] at hf
        subst hf
        exact ⟨Int.le_refl _, fun e => absurd e n3, .inl ⟨by rw [eb rfl]; exact Int.le_refl _, fun _ _ _ => rfl⟩⟩
      · have e4 : dreq r (cur 0) = ⟨(cur 0).hand, 1, ((0 : Nat) : Int), 0, 0, true⟩ := by simp [dreq, k1, st]
        rw [e4, ld_words _ (by omega)] at hf
        subst hf
        exact ⟨Int.le_refl _, fun e => absurd e n3, .inl ⟨by rw [eb rfl]; exact Int.le_refl _, fun _ _ _ => rfl⟩⟩
      · obtain ⟨q1, q2, q3⟩ := sl_lo hr1 B
        have e4 : dreq r (cur 0) = ⟨(cur 0).hand, 2, ((sl r B : Nat) : Int), 0, (cur 0).val, true⟩ := by simp [dreq, k1, st, en, q3]
        rw [e4, st_words _ _ (by omega)] at hf
        have g0 : f' 0 = f 0 := by rw [← hf, putF_other (by omega)]
        have g1 : f' 1 = f 1 := by rw [← hf, putF_other (by omega)]
        exact ⟨by omega, fun e => absurd e n3, .inl ⟨by rw [eb g1]; exact Int.le_refl _, fun p h1 h2 => by rw [← hf, putF_other (sl_ne h2 (by omega))]⟩⟩
      · have e4 : dreq r (cur 0) = ⟨(cur 0).hand, 2, ((1 : Nat) : Int), 0, B + 1, true⟩ := by simp [dreq, k1, st, en, u64_sm (show 0 ≤ B + 1 ∧ B + 1 ≤ 100000 by omega)]
        rw [e4, st_words _ _ (by omega)] at hf
        have e5 : dends r (cur 0) x = true := by simp [dends, k1, st]
        have g0 : f' 0 = f 0 := by rw [← hf, putF_other (by omega)]
        have g1 : f' 1 = B + 1 := by rw [← hf, putF_same]
        exact ⟨by omega, fun e => absurd e n3, .inr ⟨by rw [ee e5, g1], g0, e5, k1, rfl, by rw [← hf, w1, sv], fun p h1 h2 => by rw [← hf, w1]⟩⟩
    · have fin : f 0 ≤ f' 0 → B' ≤ B → (∀ p : Int, f' (sl r p) = f (sl r p)) → Mv r f f' B B' 0 (cur 0) (dends r (cur 0) x) (dnext r (cur 0) x).told := fun a c d => ⟨a, fun e => absurd e n3, .inl ⟨c, fun p _ _ => d p⟩⟩
      rcases w with ⟨st, f1, eU, ep, tl⟩ | ⟨st, f1, en, eU, ep, tl⟩ | ⟨st, f1, en, eU, ep, tl⟩ | ⟨st, f1, en, p0, p1, eU, ep, tl⟩ | ⟨st, f1, en, p0, p1, p2, eU, ep, tl⟩ | ⟨st, f1, en, p0, p1, p2, sv, eU, ep, tl⟩ | ⟨st, f1, en, p0, eU, ep⟩
      · have e4 : dreq r (cur 0) = ⟨(cur 0).hand, 1, ((1 : Nat) : Int), 0, 0, true⟩ := by simp [dreq, k2, st]
        rw [e4, ld_words _ (by omega)] at hf
        subst hf
        have e5 : dends r (cur 0) x = false := by simp [dends, k2, st]
        have e7 : (dnext r (cur 0) x).st = 1 := by simp [dnext, k2, st]
        exact fin (Int.le_refl _) (by rw [eg e5, e7, if_neg (by omega)]; omega) (fun _ => rfl)
      · have e4 : dreq r (cur 0) = ⟨(cur 0).hand, 2, ((1 : Nat) : Int), 0, (cur 0).en, true⟩ := by simp [dreq, k2, st]
        rw [e4, st_words _ _ (by omega)] at hf
        have e5 : dends r (cur 0) x = false := by simp [dends, k2, st]
        have e7 : (dnext r (cur 0) x).st = 2 := by simp [dnext, k2, st]
        have g1 : f' 1 = (cur 0).en := by rw [← hf, putF_same]
        exact fin (by rw [← hf, putF_other (by omega)]; exact Int.le_refl _) (by rw [eg e5, e7, if_pos ⟨k2, by omega⟩, g1, en, bt_u ⟨by omega, by omega⟩]; exact Int.le_refl _) (fun p => by rw [← hf, w1])
      · have e4 : dreq r (cur 0) = ⟨(cur 0).hand, 1, ((0 : Nat) : Int), 0, 0, true⟩ := by simp [dreq, k2, st]
        rw [e4, ld_words _ (by omega)] at hf
        subst hf
        have e5 : dends r (cur 0) x = false := by simp [dends, k2, st]
        have e7 : 2 ≤ (dnext r (cur 0) x).st := by simp [dnext, k2, st]; split <;> decide
        exact fin (Int.le_refl _) (by rw [eg e5, if_pos ⟨k2, e7⟩, f1, bt_u ⟨by omega, by omega⟩]; exact Int.le_refl _) (fun _ => rfl)
      · obtain ⟨q1, q2, q3⟩ := sl_lo hr1 (B - 1)
        have eu : (cur 0).en = B - 1 := by rw [en]; exact u64_sm ⟨by omega, by omega⟩
        have e4 : dreq r (cur 0) = ⟨(cur 0).hand, 1, ((sl r (B - 1) : Nat) : Int), 0, 0, true⟩ := by simp [dreq, k2, st, eu, q3]
        rw [e4, ld_words _ (by omega)] at hf
        subst hf
        have ah : 0 < ahd (cur 0).en (cur 0).fst := by rw [eu, ahd_d ⟨by omega, by omega⟩]; omega
        have e5 : dends r (cur 0) x = true := by simp [dends, k2, st, ah]
        exact fin (Int.le_refl _) (by rw [ee e5, f1, u64_sm ⟨by omega, by omega⟩]; omega) (fun _ => rfl)
      · obtain ⟨q1, q2, q3⟩ := sl_lo hr1 (B - 1)
        have eu : (cur 0).en = B - 1 := by rw [en]; exact u64_sm ⟨by omega, by omega⟩
        have e4 : dreq r (cur 0) = ⟨(cur 0).hand, 1, ((sl r (B - 1) : Nat) : Int), 0, 0, true⟩ := by simp [dreq, k2, st, eu, q3]
        rw [e4, ld_words _ (by omega)] at hf
        subst hf
        have ah : ¬ 0 < ahd (cur 0).en (cur 0).fst := by rw [eu, ahd_d ⟨by omega, by omega⟩]; omega
        have e5 : dends r (cur 0) x = false := by simp [dends, k2, st, ah]
        have e7 : (dnext r (cur 0) x).st = 4 := by simp [dnext, k2, st]
        exact fin (Int.le_refl _) (by rw [eg e5, e7, if_pos ⟨k2, by omega⟩, f1, bt_u ⟨by omega, by omega⟩]; exact Int.le_refl _) (fun _ => rfl)
      · have e4 : dreq r (cur 0) = ⟨(cur 0).hand, 5, ((0 : Nat) : Int), (cur 0).fst, u64 ((cur 0).fst + 1), true⟩ := by simp [dreq, k2, st]
        rw [e4] at hf
        have e5 : dends r (cur 0) x = false := by simp [dends, k2, st]
        have e7 : (dnext r (cur 0) x).st = 5 := by simp [dnext, k2, st]
        by_cases e : f 0 = (cur 0).fst
        · have c2 := (cas_yes (n := P.n) (f := f) (a := 0) (cur 0).hand (cur 0).fst (u64 ((cur 0).fst + 1)) (by omega) e).2
          rw [c2] at hf
          have g1 : f' 1 = f 1 := by rw [← hf, putF_other (by omega)]
          have g0 : f' 0 = f 0 + 1 := by rw [← hf, putF_same, u64_sm ⟨by omega, by omega⟩, e]
          exact fin (by omega) (by rw [eg e5, e7, if_pos ⟨k2, by omega⟩, g1, f1, bt_u ⟨by omega, by omega⟩]; exact Int.le_refl _) (fun p => by rw [← hf, w0])
        · have c2 := (cas_no (n := P.n) (f := f) (a := 0) (cur 0).hand (cur 0).fst (u64 ((cur 0).fst + 1)) (by omega) e).2
          rw [c2] at hf
          subst hf
          exact fin (Int.le_refl _) (by rw [eg e5, e7, if_pos ⟨k2, by omega⟩, f1, bt_u ⟨by omega, by omega⟩]; exact Int.le_refl _) (fun _ => rfl)
      · have e4 : dreq r (cur 0) = ⟨(cur 0).hand, 2, ((1 : Nat) : Int), 0, u64 ((cur 0).en + 1), true⟩ := by simp [dreq, k2, st]
        rw [e4, st_words _ _ (by omega)] at hf
        have e5 : dends r (cur 0) x = true := by simp [dends, k2, st]
        have g1 : f' 1 = u64 ((cur 0).en + 1) := by rw [← hf, putF_same]
        exact fin (by rw [← hf, putF_other (by omega)]; exact Int.le_refl _) (by rw [ee e5, g1, en, bt_u ⟨by omega, by omega⟩]; exact Int.le_refl _) (fun p => by rw [← hf, w1])

/-- What stands rises; what was stolen last is less; what hand 0 will lay is greater. -/
structure Os (r : Nat) (P : Par) (f : Nat → Int) (done : Nat → Nat) (B last : Int) : Prop where
  so : ∀ p q : Int, f 0 ≤ p → p < q → q < B → f (sl r p) < f (sl r q)
  la : ∀ p : Int, f 0 ≤ p → p < B → last < f (sl r p)
  nx : ∀ p : Int, f 0 ≤ p → p < B → ∀ j, done 0 ≤ j → j < P.jn 0 → (P.jb 0 j).kind = 1 → f (sl r p) < (P.jb 0 j).h
  ln : ∀ j, done 0 ≤ j → j < P.jn 0 → (P.jb 0 j).kind = 1 → last < (P.jb 0 j).h

/-- Hand 0's values to lay rise. -/
def Rise (P : Par) : Prop := (∀ j, j < P.jn 0 → (P.jb 0 j).kind = 1 → 0 < (P.jb 0 j).h) ∧ ∀ i j, i < j → j < P.jn 0 → (P.jb 0 i).kind = 1 → (P.jb 0 j).kind = 1 → (P.jb 0 i).h < (P.jb 0 j).h

theorem Os.step {last : Int} {s : DeS} {en : Bool} {a : Ans} (hR : Rise P) (O : Os r P f done B last) (M : Mv r f f' B B' h s en a) {done' : Nat → Nat} (hd' : done 0 ≤ done' 0) (hl : en = true → h = 0 → done' 0 = done 0 + 1) (hj : h = 0 → s.j = P.jb 0 (done 0) ∧ done 0 < P.jn 0) (hv : h = 0 → s.j.kind = 1 → s.val = s.j.h) :
    (s.j.kind = 3 → en = true → a.ok = true → last < a.val ∧ Os r P f' done' B' a.val) ∧ (¬ (s.j.kind = 3 ∧ en = true ∧ a.ok = true) → Os r P f' done' B' last) := by
  obtain ⟨m0, m3, m⟩ := M
  refine ⟨fun k3 e o => ?_, fun n => ?_⟩
  · obtain ⟨v1, v2, v3⟩ := m3 k3 e o
    have m : B' ≤ B ∧ ∀ p : Int, f 0 ≤ p → p < B → f' (sl r p) = f (sl r p) := by
      rcases m with m | m
      · exact m
      · omega
    obtain ⟨mb, ms⟩ := m
    refine ⟨by rw [v1]; exact O.la _ (Int.le_refl _) v3, fun p q hp hpq hq => ?_, fun p hp hb => ?_, fun p hp hb j h1 h2 h3 => ?_, fun j h1 h2 h3 => ?_⟩
    · rw [ms p (by omega) (by omega), ms q (by omega) (by omega)]; exact O.so p q (by omega) hpq (by omega)
    · rw [ms p (by omega) (by omega), v1]; exact O.so _ p (Int.le_refl _) (by omega) (by omega)
    · rw [ms p (by omega) (by omega)]; exact O.nx p (by omega) (by omega) j (by omega) h2 h3
    · rw [v1]; exact O.nx _ (Int.le_refl _) v3 j (by omega) h2 h3
  · rcases m with ⟨mb, ms⟩ | ⟨mb, g0, e, k1, h0, vl, ms⟩
    · refine ⟨fun p q hp hpq hq => ?_, fun p hp hb => ?_, fun p hp hb j h1 h2 h3 => ?_, fun j h1 h2 h3 => O.ln j (by omega) h2 h3⟩
      · rw [ms p (by omega) (by omega), ms q (by omega) (by omega)]; exact O.so p q (by omega) hpq (by omega)
      · rw [ms p (by omega) (by omega)]; exact O.la p (by omega) (by omega)
      · rw [ms p (by omega) (by omega)]; exact O.nx p (by omega) (by omega) j (by omega) h2 h3
    · obtain ⟨j1, j2⟩ := hj h0
      have ev : f' (sl r B) = (P.jb 0 (done 0)).h := by rw [vl, hv h0 k1, j1]
      have kj : (P.jb 0 (done 0)).kind = 1 := by rw [← j1]; exact k1
      have d1 := hl e h0
      refine ⟨fun p q hp hpq hq => ?_, fun p hp hb => ?_, fun p hp hb j h1 h2 h3 => ?_, fun j h1 h2 h3 => O.ln j (by omega) h2 h3⟩
      · rcases Int.lt_or_le q B with c | c
        · rw [ms p (by omega) (by omega), ms q (by omega) (by omega)]; exact O.so p q (by omega) hpq (by omega)
        · obtain rfl : q = B := by omega
          rw [ms p (by omega) (by omega), ev]; exact O.nx p (by omega) (by omega) _ (Nat.le_refl _) j2 kj
      · rcases Int.lt_or_le p B with c | c
        · rw [ms p (by omega) (by omega)]; exact O.la p (by omega) (by omega)
        · obtain rfl : p = B := by omega
          rw [ev]; exact O.ln _ (Nat.le_refl _) j2 kj
      · rcases Int.lt_or_le p B with c | c
        · rw [ms p (by omega) (by omega)]; exact O.nx p (by omega) (by omega) j (by omega) h2 h3
        · obtain rfl : p = B := by omega
          rw [ev]; exact hR.2 _ _ (by omega) h2 kj h3
end Deal
end Go.Proofs.Ytdgolkdedghajaa

/-
  DealOrder, without a program: a CAS of top that is not done stands against one of another hand that was, since the load of top. What is told in its order.
-/
namespace Go.Proofs.Ytdgolkdedghajaa
open Go.RowKit
set_option linter.unusedVariables false
set_option linter.unusedSimpArgs false
set_option maxRecDepth 20000
namespace Deal

/-- The law's loop over what is told: the last one that was stolen; none where it says no. -/
def La : List (Int × Ans) → Int → Option Int
  | [], l => some l
  | e :: E, l => if e.1 = 3 ∧ e.2.ok = true then (if e.2.val ≤ l then none else La E e.2.val) else La E l
theorem La_append : ∀ (E : List (Int × Ans)) (e : Int × Ans) (l l' l2 : Int), La E l = some l' → La [e] l' = some l2 → La (E ++ [e]) l = some l2
  | [], e, l, l', l2, h1, h2 => by
    have h1 : l = l' := by simpa [La] using h1
    subst h1
    exact h2
  | d :: E, e, l, l', l2, h1, h2 => by
    show La (d :: (E ++ [e])) l = some l2
    unfold La at h1 ⊢
    split at h1
    · rename_i c
      rw [if_pos c]
      split at h1
      · cases h1
      · rename_i c2
        rw [if_neg c2]
        exact La_append E e _ _ _ h1 h2
    · rename_i c
      rw [if_neg c]
      exact La_append E e _ _ _ h1 h2

/-- A run under way, what the law keeps of it, and the order. -/
structure Dq (r : Nat) (P : Par) (i : Nat) (ml : Nat → Nat) (md : Nat → Nat → Stp) (E : List (Int × Ans)) : Prop where
  d : Do r P (rn r P i) i ml md E
  vl : 0 < P.nh → (rn r P i).done 0 < P.jn 0 → ((rn r P i).cur 0).j.kind = 1 → ((rn r P i).cur 0).val = ((rn r P i).cur 0).j.h
  os : ∃ B U pd last, Dv r P (rn r P i).f (rn r P i).done (rn r P i).cur B U pd i ∧ La E 0 = some last ∧ (0 < P.nh → Os r P (rn r P i).f (rn r P i).done B last)

theorem dq_start {r : Nat} {P : Par} (hr1 : 1 ≤ r) (hok : Jok P) (hR : 0 < P.nh → Rise P) (md : Nat → Nat → Stp) : Dq r P 0 (fun _ => 0) md [] :=
  ⟨do_start hr1 hok md, fun _ _ k1 => by
    show (if (P.jb 0 0).kind = 1 then (P.jb 0 0).h else 0) = (P.jb 0 0).h
    exact if_pos (show (P.jb 0 0).kind = 1 from k1), 0, 0, [], 0, dv_start hr1 hok, rfl, fun z => ⟨fun p q h1 h2 h3 => (by have h1 : (0 : Int) ≤ p := h1; omega), fun p h1 h2 => (by have h1 : (0 : Int) ≤ p := h1; omega), fun p h1 h2 => (by have h1 : (0 : Int) ≤ p := h1; omega), fun j _ h2 h3 => (hR z).1 j h2 h3⟩⟩

theorem dnext_val1 (r : Int) (s : DeS) (x : Stp) (k1 : s.j.kind = 1) : (dnext r s x).val = s.val := by
  unfold dnext
  rw [if_pos k1]
  repeat' split
  all_goals rfl

/-- One step, in the law's words (the kept part is any D). -/
theorem law_dq {r : Nat} {P : Par} (hr1 : 1 ≤ r) (hr2 : r ≤ 64) (hn : P.n = 2 + r) (hok : Jok P) (hR : 0 < P.nh → Rise P) {m i : Nat} (hm : m ≤ 65536) (hi : i < (rn r P m).k) {ml : Nat → Nat} {md : Nat → Nat → Stp} {E : List (Int × Ans)} (Q : Dq r P i ml md E) :
    ∃ h en, LT (Dq r P) r P m i ((rn r P m).s i) ml md E h en := by
  obtain ⟨hk, ⟨h, _, hh, hg, e⟩, es⟩ := hist P (st0 (kDeal r) P (fun _ => 0)) rfl m i hi
  have hle : i + 1 ≤ m := by
    have := (runSt_k P (st0 (kDeal r) P (fun _ => 0)) rfl m).1
    have hi' : i < (runSt P (st0 (kDeal r) P (fun _ => 0)) m).k := hi
    omega
  have ex : (rn r P m).s i = stepOf P.n (rn r P i).f (dreq r ((rn r P i).cur h)) := by
    show (runSt P (st0 (kDeal r) P (fun _ => 0)) m).s i = _
    rw [es, e]
    show upd (runSt P (st0 (kDeal r) P (fun _ => 0)) i).s (runSt P (st0 (kDeal r) P (fun _ => 0)) i).k _ i = _
    rw [hk, upd_same]
    rfl
  have e' : rn r P (i + 1) = stepSt P (rn r P i) h := e
  obtain ⟨h2, en, L⟩ := law_do hr1 hr2 hn hok hm hi Q.d
  -- the hand is the same
  have sh : ((rn r P i).cur h).hand = (h : Int) := by
    obtain ⟨B, U, pd, L, dv, _, _⟩ := Q.d.dv
    exact ((dv.hd h hh).1 hg).1
  have e2 : h2 = h := by
    have a := L.hand
    rw [ex, step_hand] at a
    have b : (dreq r ((rn r P i).cur h)).hand = (h : Int) := (req_hand r ((rn r P i).cur h)).trans sh
    rw [b] at a
    omega
  subst e2
  have ej := Q.d.jb h2 hh hg
  have ed : dends r ((rn r P i).cur h2) ((rn r P m).s i) = en := by
    obtain ⟨le, _, _⟩ := Q.d.step hr1 hr2 hn hok (by omega) hh hg ex.symm
    rw [← le]
    exact L.ends
  obtain ⟨B, U, pd, last, dv, la, os⟩ := Q.os
  have z : 0 < P.nh := by omega
  have os := os z
  obtain ⟨B', U', pd', dv', _⟩ := dv.step hr1 hr2 hn hok (by omega) hh hg ex.symm rfl
  have mv := mv_ok hr1 hr2 hn (by omega) dv hh hg ex.symm rfl dv'
  rw [ed] at dv' mv
  -- the next state
  have ff : (rn r P (i + 1)).f = wordsOf P.n (rn r P i).f (dreq r ((rn r P i).cur h2)) := by rw [e']; rfl
  have fd : (rn r P (i + 1)).done = if en = true then upd (rn r P i).done h2 ((rn r P i).done h2 + 1) else (rn r P i).done := L.dn
  have fc : (rn r P (i + 1)).cur = upd (rn r P i).cur h2 (if en = true then dinit (h2 : Int) (P.jb h2 ((rn r P i).done h2 + 1)) else dnext r ((rn r P i).cur h2) ((rn r P m).s i)) := by
    rw [e', ex, ← ed, ex]
    rfl
  have dvN : Dv r P (rn r P (i + 1)).f (rn r P (i + 1)).done (rn r P (i + 1)).cur B' U' pd' (i + 1) := by
    rw [ff, fd, fc]
    exact dv'
  have vlN : 0 < P.nh → (rn r P (i + 1)).done 0 < P.jn 0 → ((rn r P (i + 1)).cur 0).j.kind = 1 → ((rn r P (i + 1)).cur 0).val = ((rn r P (i + 1)).cur 0).j.h := fun z hd k1 => by
    rw [fc] at k1 ⊢
    by_cases c : h2 = 0
    · subst c
      rw [upd_same] at k1 ⊢
      cases en with
      | true =>
        have k2 : (P.jb 0 ((rn r P i).done 0 + 1)).kind = 1 := k1
        show (if (P.jb 0 ((rn r P i).done 0 + 1)).kind = 1 then (P.jb 0 ((rn r P i).done 0 + 1)).h else 0) = (P.jb 0 ((rn r P i).done 0 + 1)).h
        exact if_pos k2
      | false =>
        have k2 : (dnext r ((rn r P i).cur 0) ((rn r P m).s i)).j.kind = 1 := k1
        have dj : (dnext r ((rn r P i).cur 0) ((rn r P m).s i)).j = ((rn r P i).cur 0).j := dnext_j r ((rn r P i).cur 0) ((rn r P m).s i)
        have k3 : ((rn r P i).cur 0).j.kind = 1 := (congrArg Jb.kind dj).symm.trans k2
        show (dnext r ((rn r P i).cur 0) ((rn r P m).s i)).val = (dnext r ((rn r P i).cur 0) ((rn r P m).s i)).j.h
        exact (dnext_val1 r ((rn r P i).cur 0) _ k3).trans ((Q.vl z hg k3).trans (congrArg Jb.h dj).symm)
    · rw [upd_other _ _ (fun t => c t.symm)] at k1 ⊢
      rw [fd] at hd
      have d0 : (if en = true then upd (rn r P i).done h2 ((rn r P i).done h2 + 1) else (rn r P i).done) 0 = (rn r P i).done 0 := by
        split
        · exact upd_other _ _ (fun t => c t.symm)
        · rfl
      rw [d0] at hd
      exact Q.vl z hd k1
  have dle : (rn r P i).done 0 ≤ (rn r P (i + 1)).done 0 := by
    rw [fd]
    split
    · by_cases c : h2 = 0
      · subst c; rw [upd_same]; omega
      · rw [upd_other _ _ (fun t => c t.symm)]; exact Nat.le_refl _
    · exact Nat.le_refl _
  have st := os.step (hR z) mv (done' := (rn r P (i + 1)).done) dle (fun t c => by subst c; rw [fd, if_pos t, upd_same]) (fun c => by subst c; exact ⟨ej, hg⟩) (fun c k1 => by subst c; exact Q.vl hh hg k1)
  have tl : en = true → (rn r P m).ans h2 ((rn r P i).done h2) = (dnext r ((rn r P i).cur h2) ((rn r P m).s i)).told := fun t => by
    have tl := told_later P (st0 (kDeal r) P (fun _ => 0)) rfl hle h2
    have dd : (runSt P (st0 (kDeal r) P (fun _ => 0)) (i + 1)).done h2 = (rn r P i).done h2 + 1 := by
      show (rn r P (i + 1)).done h2 = _
      rw [fd, if_pos t, upd_same]
    rw [dd] at tl
    have ta : (rn r P m).ans h2 ((rn r P i).done h2) = (rn r P (i + 1)).ans h2 ((rn r P i).done h2) := tl.2 _ (by omega)
    rw [ta, e']
    have e1 : (kDeal r).ends ((rn r P i).cur h2) (stepOf P.n (rn r P i).f ((kDeal r).req ((rn r P i).cur h2))) = true := by
      rw [← t, ← ed, ex]; rfl
    unfold stepSt
    simp only [e1]
    show upd (rn r P i).ans h2 (upd ((rn r P i).ans h2) ((rn r P i).done h2) _) h2 ((rn r P i).done h2) = _
    rw [upd_same, upd_same, ex]
    rfl
  refine ⟨h2, en, L.hh, L.hd, L.hand, L.kd, L.ends, L.dn, fun t => ?_, fun t => ?_⟩
  · refine ⟨L.no t, vlN, B', U', pd', last, dvN, la, ?_⟩
    have := st.2 (fun q => by rw [t] at q; cases q.2.1)
    intro _
    rw [ff]
    exact this
  · obtain ⟨y1, y2⟩ := L.ye t
    refine ⟨y1, y2, vlN, ?_⟩
    rw [tl t]
    obtain ⟨a, ha⟩ : ∃ a, (dnext r ((rn r P i).cur h2) ((rn r P m).s i)).told = a := ⟨_, rfl⟩
    rw [ha] at st ⊢
    by_cases c : ((rn r P i).cur h2).j.kind = 3 ∧ a.ok = true
    · obtain ⟨l1, o1⟩ := st.1 c.1 t c.2
      refine ⟨B', U', pd', a.val, dvN, ?_, fun _ => by rw [ff]; exact o1⟩
      refine La_append E _ _ _ _ la ?_
      have c1 : (P.jb h2 ((rn r P i).done h2)).kind = 3 := by rw [← ej]; exact c.1
      unfold La
      rw [if_pos ⟨c1, c.2⟩, if_neg (by show ¬ a.val ≤ last; omega)]
      rfl
    · have o1 := st.2 (fun q => c ⟨q.1, q.2.2⟩)
      refine ⟨B', U', pd', last, dvN, ?_, fun _ => by rw [ff]; exact o1⟩
      refine La_append E _ _ _ _ la ?_
      have c1 : ¬ ((P.jb h2 ((rn r P i).done h2)).kind = 3 ∧ a.ok = true) := by rw [← ej]; exact c
      unfold La
      rw [if_neg c1]
      rfl

/-- A hand that has loaded top and will try a CAS of it. -/
def Tries (s : DeS) : Prop := (s.j.kind = 2 ∧ (s.st = 3 ∨ s.st = 4)) ∨ (¬ s.j.kind = 1 ∧ ¬ s.j.kind = 2 ∧ ¬ s.st = 0)
/-- Where none has changed top since, what was loaded is top. -/
def Sn {r : Nat} (P : Par) (st : St (kDeal r)) (sc : Nat → Bool) : Prop := ∀ h, h < P.nh → st.done h < P.jn h → Tries (st.cur h) → sc h = false → (st.cur h).fst = st.f 0
/-- What the law makes of a step. -/
def scn (sc : Nat → Bool) (h : Nat) (x : Stp) : Nat → Bool :=
  if x.act = 5 then (fun q => sc q || (x.ok && decide (¬ q = h))) else if x.at_ = 0 ∧ x.act = 1 then upd sc h false else sc

theorem tries_init (hh : Int) (J : Jb) : ¬ Tries (dinit hh J) := by
  unfold Tries
  rintro (⟨_, h | h⟩ | ⟨_, _, h⟩)
  · have h : (0 : Int) = 3 := h
    omega
  · have h : (0 : Int) = 4 := h
    omega
  · exact h rfl

theorem sn_fin {r : Nat} {P : Par} {st : St (kDeal r)} {sc : Nat → Bool} {h : Nat} {x : Stp} (S : Sn P st sc) (hh : h < P.nh) (hd : st.done h < P.jn h) (hx : stepOf P.n st.f (dreq r (st.cur h)) = x)
    (ho : ∀ q, ¬ q = h → scn sc h x q = false → sc q = false ∧ wordsOf P.n st.f (dreq r (st.cur h)) 0 = st.f 0)
    (hs : dends r (st.cur h) x = false → Tries (dnext r (st.cur h) x) → scn sc h x h = false → (dnext r (st.cur h) x).fst = wordsOf P.n st.f (dreq r (st.cur h)) 0) : Sn P (stepSt P st h) (scn sc h x) := by
  have hx' : stepOf P.n st.f ((kDeal r).req (st.cur h)) = x := hx
  have d0 : (stepSt P st h).f = wordsOf P.n st.f (dreq r (st.cur h)) := rfl
  intro q hq hdq ht hsc
  rw [d0]
  cases en : dends r (st.cur h) x with
  | true =>
    have e1 : (kDeal r).ends (st.cur h) (stepOf P.n st.f ((kDeal r).req (st.cur h))) = true := by rw [hx']; exact en
    have d1 : (stepSt P st h).done = upd st.done h (st.done h + 1) := by unfold stepSt; simp only [e1]; rfl
    have d3 : (stepSt P st h).cur = upd st.cur h (dinit (h : Int) (P.jb h (st.done h + 1))) := by unfold stepSt; simp only [e1]; rfl
    have c1 : (stepSt P st h).cur h = dinit (h : Int) (P.jb h (st.done h + 1)) := by rw [d3]; exact if_pos rfl
    have c2 : ∀ i, i ≠ h → (stepSt P st h).cur i = st.cur i := fun i e => by rw [d3]; exact if_neg e
    by_cases e : q = h
    · subst e
      rw [c1] at ht
      exact absurd ht (tries_init _ _)
    · rw [c2 q e] at ht ⊢
      rw [d1, upd_other _ _ e] at hdq
      obtain ⟨a, b⟩ := ho q e hsc
      rw [b]
      exact S q hq hdq ht a
  | false =>
    have e1 : (kDeal r).ends (st.cur h) (stepOf P.n st.f ((kDeal r).req (st.cur h))) = false := by rw [hx']; exact en
    have d1 : (stepSt P st h).done = st.done := by unfold stepSt; simp only [e1]; rfl
    have d3 : (stepSt P st h).cur = upd st.cur h (dnext r (st.cur h) x) := by unfold stepSt; simp only [e1]; rw [hx']; rfl
    have c1 : (stepSt P st h).cur h = dnext r (st.cur h) x := by rw [d3]; exact if_pos rfl
    have c2 : ∀ i, i ≠ h → (stepSt P st h).cur i = st.cur i := fun i e => by rw [d3]; exact if_neg e
    by_cases e : q = h
    · subst e
      rw [c1] at ht ⊢
      exact hs en ht hsc
    · rw [c2 q e] at ht ⊢
      rw [d1] at hdq
      obtain ⟨a, b⟩ := ho q e hsc
      rw [b]
      exact S q hq hdq ht a

set_option maxHeartbeats 1000000 in
theorem Sn.step {r : Nat} {P : Par} (hr1 : 1 ≤ r) (hn : P.n = 2 + r) {st : St (kDeal r)} {sc : Nat → Bool} {h : Nat} {x : Stp} (S : Sn P st sc) (hh : h < P.nh) (hd : st.done h < P.jn h) (hx : stepOf P.n st.f (dreq r (st.cur h)) = x) :
    (x.act = 5 → x.ok = false → sc h = true) ∧ Sn P (stepSt P st h) (scn sc h x) := by
  obtain ⟨s, hs⟩ : ∃ s : DeS, st.cur h = s := ⟨_, rfl⟩
  have S0 := S h hh hd
  have fin := sn_fin S hh hd hx
  rw [hs] at hx S0 fin
  -- a load or a store of another word than top
  have quiet : ∀ (a : Nat) (act v : Int), 1 ≤ a → a < P.n → act = 1 ∨ act = 2 → dreq r s = ⟨s.hand, act, (a : Int), 0, v, true⟩ → (act = 1 → v = 0) → (dends r s x = false → Tries (dnext r s x) → Tries s ∧ (dnext r s x).fst = s.fst) → (x.act = 5 → x.ok = false → sc h = true) ∧ Sn P (stepSt P st h) (scn sc h x) := fun a act v ha han hact e4 hv ht => by
    have xa : x.act = act ∧ x.at_ = (a : Int) := by
      rw [← hx, e4]
      exact step_act _ _ _ (by rcases hact with h | h <;> simp [h])
    have f0 : wordsOf P.n st.f (dreq r s) 0 = st.f 0 := by
      rw [e4]
      rcases hact with h1 | h1
      · rw [h1, hv h1, ld_words _ han]
      · rw [h1, st_words _ _ han, putF_other (by omega)]
    have es : scn sc h x = sc := by
      unfold scn
      rw [if_neg (by rw [xa.1]; omega), if_neg (by rw [xa.2]; omega)]
    refine ⟨fun t => by rw [xa.1] at t; omega, fin (fun q e c => ⟨by rw [es] at c; exact c, f0⟩) (fun en t c => ?_)⟩
    rw [es] at c
    rw [f0, (ht en t).2]
    exact S0 (ht en t).1 c
  -- a load of top
  have load0 : dreq r s = ⟨s.hand, 1, ((0 : Nat) : Int), 0, 0, true⟩ → (Tries (dnext r s x) → (dnext r s x).fst = x.had) → (x.act = 5 → x.ok = false → sc h = true) ∧ Sn P (stepSt P st h) (scn sc h x) := fun e4 ht => by
    have hx2 := hx
    rw [e4, ld_step _ (by omega)] at hx2
    have f0 : wordsOf P.n st.f (dreq r s) = st.f := by rw [e4, ld_words _ (by omega)]
    have xa : x.act = 1 ∧ x.at_ = 0 ∧ x.had = st.f 0 := by rw [← hx2]; exact ⟨rfl, rfl, rfl⟩
    have es : scn sc h x = upd sc h false := by
      unfold scn
      rw [if_neg (by rw [xa.1]; omega), if_pos ⟨xa.2.1, xa.1⟩]
    refine ⟨fun t => by rw [xa.1] at t; omega, fin (fun q e c => ⟨by rw [es, upd_other _ _ e] at c; exact c, by rw [f0]⟩) (fun en t c => ?_)⟩
    rw [f0, ht t, xa.2.2]
  -- a CAS of top
  have cas : dreq r s = ⟨s.hand, 5, ((0 : Nat) : Int), s.fst, u64 (s.fst + 1), true⟩ → Tries s → (dends r s x = false → ¬ Tries (dnext r s x)) → (x.act = 5 → x.ok = false → sc h = true) ∧ Sn P (stepSt P st h) (scn sc h x) := fun e4 ts ht => by
    have hx2 := hx
    rw [e4] at hx2
    by_cases e : st.f 0 = s.fst
    · rw [(cas_yes _ _ _ (by omega) e).1] at hx2
      have xa : x.act = 5 ∧ x.ok = true := by rw [← hx2]; exact ⟨rfl, rfl⟩
      refine ⟨fun _ t => (by rw [xa.2] at t; cases t), fin (fun q e c => ?_) (fun en t c => absurd t (ht en))⟩
      unfold scn at c
      rw [if_pos xa.1] at c
      simp [xa.2, e] at c
    · obtain ⟨c1, c2⟩ := cas_no (n := P.n) (f := st.f) (a := 0) s.hand s.fst (u64 (s.fst + 1)) (by omega) e
      rw [c1] at hx2
      have f0 : wordsOf P.n st.f (dreq r s) = st.f := by rw [e4]; exact c2
      have xa : x.act = 5 ∧ x.ok = false := by rw [← hx2]; exact ⟨rfl, rfl⟩
      have ss : sc h = true := by
        cases c : sc h with
        | true => rfl
        | false => exact absurd (S0 ts c).symm e
      refine ⟨fun _ _ => ss, fin (fun q e c => ⟨?_, by rw [f0]⟩) (fun en t c => absurd t (ht en))⟩
      unfold scn at c
      rw [if_pos xa.1] at c
      simpa [xa.2] using c
  by_cases k1 : s.j.kind = 1
  · have nt : ¬ Tries (dnext r s x) := by
      unfold Tries
      rw [dnext_j]
      omega
    by_cases c0 : s.st = 0
    · exact quiet 1 1 0 (by omega) (by omega) (.inl rfl) (by simp [dreq, k1, c0]) (fun _ => rfl) (fun _ t => absurd t nt)
    · by_cases c2 : s.st = 2
      · exact load0 (by simp [dreq, k1, c2]) (fun t => absurd t nt)
      · by_cases c3 : s.st = 3
        · obtain ⟨q1, q2, q3⟩ := sl_lo hr1 s.en
          exact quiet (sl r s.en) 2 s.val (by omega) (by omega) (.inr rfl) (by simp [dreq, k1, c3, q3]) (fun e => by omega) (fun _ t => absurd t nt)
        · exact quiet 1 2 (u64 (s.en + 1)) (by omega) (by omega) (.inr rfl) (by simp [dreq, k1, c0, c2, c3]) (fun e => by omega) (fun _ t => absurd t nt)
  · by_cases k2 : s.j.kind = 2
    · by_cases c0 : s.st = 0
      · exact quiet 1 1 0 (by omega) (by omega) (.inl rfl) (by simp [dreq, k2, c0]) (fun _ => rfl) (fun _ t => by
          have e7 : dnext r s x = { s with en := u64 (x.had - 1), st := 1 } := by simp [dnext, k2, c0]
          rw [e7] at t
          unfold Tries at t
          simp [k2] at t)
      · by_cases c1 : s.st = 1
        · exact quiet 1 2 s.en (by omega) (by omega) (.inr rfl) (by simp [dreq, k2, c1]) (fun e => by omega) (fun _ t => by
            have e7 : dnext r s x = { s with st := 2 } := by simp [dnext, k2, c1]
            rw [e7] at t
            unfold Tries at t
            simp [k2] at t)
        · by_cases c2 : s.st = 2
          · exact load0 (by simp [dreq, k2, c2]) (fun t => by simp [dnext, k2, c2])
          · by_cases c3 : s.st = 3
            · obtain ⟨q1, q2, q3⟩ := sl_lo hr1 s.en
              exact quiet (sl r s.en) 1 0 (by omega) (by omega) (.inl rfl) (by simp [dreq, k2, c3, q3]) (fun _ => rfl) (fun _ t => ⟨.inl ⟨k2, .inl c3⟩, by simp [dnext, k2, c3]⟩)
            · by_cases c4 : s.st = 4
              · exact cas (by simp [dreq, k2, c4]) (.inl ⟨k2, .inr c4⟩) (fun _ t => by
                  have e7 : (dnext r s x).st = 5 := by simp [dnext, k2, c4]
                  unfold Tries at t
                  rw [dnext_j] at t
                  omega)
              · exact quiet 1 2 (u64 (s.en + 1)) (by omega) (by omega) (.inr rfl) (by simp [dreq, k2, c0, c1, c2, c3, c4]) (fun e => by omega) (fun en t => by
                  have : dends r s x = true := by simp [dends, k2, c0, c1, c2, c3, c4]
                  rw [this] at en
                  cases en)
    · by_cases c0 : s.st = 0
      · exact load0 (by simp [dreq, k1, k2, c0]) (fun t => by simp [dnext, k1, k2, c0])
      · by_cases c2 : s.st = 2
        · exact quiet 1 1 0 (by omega) (by omega) (.inl rfl) (by simp [dreq, k1, k2, c2]) (fun _ => rfl) (fun _ t => ⟨.inr ⟨k1, k2, c0⟩, by simp [dnext, k1, k2, c2]⟩)
        · by_cases c3 : s.st = 3
          · obtain ⟨q1, q2, q3⟩ := sl_lo hr1 s.fst
            exact quiet (sl r s.fst) 1 0 (by omega) (by omega) (.inl rfl) (by simp [dreq, k1, k2, c3, q3]) (fun _ => rfl) (fun _ t => ⟨.inr ⟨k1, k2, c0⟩, by simp [dnext, k1, k2, c3]⟩)
          · exact cas (by simp [dreq, k1, k2, c0, c2, c3]) (.inr ⟨k1, k2, c0⟩) (fun en t => by
              have xo : x.ok = false := by simpa [dends, k1, k2, c0, c2, c3] using en
              have e7 : (dnext r s x).st = 0 := by simp [dnext, k1, k2, c0, c2, c3, xo]
              unfold Tries at t
              rw [dnext_j] at t
              omega)

/-- One step of a run, as the law looks at it. -/
theorem law_sn {r : Nat} {P : Par} {m i : Nat} (hr1 : 1 ≤ r) (hn : P.n = 2 + r) (hw : ∀ h, h < P.nh → (rn r P i).done h < P.jn h → ((rn r P i).cur h).hand = (h : Int)) (hi : i < (rn r P m).k) {sc : Nat → Bool} (S : Sn P (rn r P i) sc) :
    ∃ h, h < P.nh ∧ ((rn r P m).s i).hand = (h : Int) ∧ (((rn r P m).s i).act = 5 → ((rn r P m).s i).ok = false → sc h = true) ∧ Sn P (rn r P (i + 1)) (scn sc h ((rn r P m).s i)) := by
  obtain ⟨hk, ⟨h, _, hh, hg, e⟩, es⟩ := hist P (st0 (kDeal r) P (fun _ => 0)) rfl m i hi
  have ex : (rn r P m).s i = stepOf P.n (rn r P i).f (dreq r ((rn r P i).cur h)) := by
    show (runSt P (st0 (kDeal r) P (fun _ => 0)) m).s i = _
    rw [es, e]
    show upd (runSt P (st0 (kDeal r) P (fun _ => 0)) i).s (runSt P (st0 (kDeal r) P (fun _ => 0)) i).k _ i = _
    rw [hk, upd_same]
    rfl
  have e' : rn r P (i + 1) = stepSt P (rn r P i) h := e
  obtain ⟨a, b⟩ := S.step hr1 hn hh hg ex.symm
  refine ⟨h, hh, by rw [ex, step_hand]; exact (req_hand r ((rn r P i).cur h)).trans (hw h hh hg), a, ?_⟩
  rw [e']
  exact b
theorem sn_start {r : Nat} {P : Par} {sc : Nat → Bool} : Sn P (rn r P 0) sc := fun h hh hd ht _ => absurd (show Tries (dinit (h : Int) (P.jb h 0)) from ht) (tries_init _ _)

end Deal
end Go.Proofs.Ytdgolkdedghajaa

/-
  DealOrder: the law's copies of the hands, their values to lay numbered: as they stand in memory, and as numbers.
-/
namespace Go.Proofs.Ytdgolkdedghajaa
open Go.RowKit KV
set_option linter.unusedVariables false
set_option linter.unusedSimpArgs false
set_option linter.unnecessarySimpa false
set_option maxRecDepth 20000
namespace Deal

def hL (jn : Nat → Nat) (blk : Rl → Nat) (cp : Nat → Nat) (k : Nat) : List Value := (List.range k).map fun h => .slice (some ⟨blk (.trow h), 0, none⟩) (jn h) (cp h)
theorem hL_len (jn : Nat → Nat) (blk : Rl → Nat) (cp : Nat → Nat) (k : Nat) : (hL jn blk cp k).length = k * 1 := by simp [hL]
theorem hL_congr {jn : Nat → Nat} {blk blk' : Rl → Nat} {cp cp' : Nat → Nat} {k : Nat} (h : ∀ i, i < k → blk' (.trow i) = blk (.trow i) ∧ cp' i = cp i) : hL jn blk' cp' k = hL jn blk cp k := by
  unfold hL
  refine List.map_congr_left fun i hi => ?_
  obtain ⟨e1, e2⟩ := h i (List.mem_range.1 hi)
  rw [e1, e2]
theorem hL_next (jn : Nat → Nat) (blk : Rl → Nat) (cp : Nat → Nat) (k : Nat) : hL jn blk cp (k + 1) = hL jn blk cp k ++ [.slice (some ⟨blk (.trow k), 0, none⟩) (jn k) (cp k)] := by simp [hL, List.range_succ]
theorem hL_get (jn : Nat → Nat) (blk : Rl → Nat) (cp : Nat → Nat) {k h : Nat} (hh : h < k) : (hL jn blk cp k)[h]? = some (.slice (some ⟨blk (.trow h), 0, none⟩) (jn h) (cp h)) := by simp [hL, hh]

/-- Rows of jobs, and the outer row. -/
structure KO (jn : Nat → Nat) (jx : Nat → Nat → Jb) (base : Nat) (w : World) (blk : Rl → Nat) (c : Rl → Option Row) (cp : Nat → Nat) (kr kf : Nat) (v3 : Value) : Prop where
  has : Has w base blk c
  row : ∀ h, h < kr → ∃ F, c (.trow h) = some ⟨52, cp h * 5, F⟩ ∧ jn h ≤ cp h ∧ Pre F (jobCells (jx h) (jn h))
  full : Grows blk c .tasks 50 1 kf (hL jn blk cp kf) v3
  kfl : kf ≤ kr

section
variable {jn : Nat → Nat} {jx : Nat → Nat → Jb} {base : Nat} {w w1 w' : World} {blk : Rl → Nat} {c : Rl → Option Row} {cp : Nat → Nat} {kr kf : Nat} {v3 v' : Value}

theorem kgrows_congr {blk blk' : Rl → Nat} {c c' : Rl → Option Row} {r : Rl} {e : TypeId} {sz k : Nat} {xs : List Value} {v : Value} (h : Grows blk c r e sz k xs v) (hb : blk' r = blk r) (hc : c' r = c r) : Grows blk' c' r e sz k xs v := by
  unfold Grows at h ⊢
  rw [hb, hc]
  exact h

theorem KO.below (h : KO jn jx base w blk c cp kr kf v3) (hb : Below w.heap.size w w') : KO jn jx base w' blk c cp kr kf v3 := { h with has := h.has.below hb }
theorem KO.congr (h : KO jn jx base w blk c cp kr kf v3) {jy : Nat → Nat → Jb} (e : ∀ q, q < kr → ∀ j, j < jn q → jx q j = jy q j) : KO jn jy base w blk c cp kr kf v3 :=
  { h with row := fun q hq => by obtain ⟨F, a, b, d⟩ := h.row q hq; exact ⟨F, a, b, by rw [← jobCells_congr (e q hq)]; exact d⟩ }
theorem own_row0 {w : World} {n size base : Nat} {e : TypeId} {v : Value} {xs : List Value} (h : w.ownsRow base e size v n xs) (hv : ¬ v = .slice none 0 0) :
    ∃ g cap F, v = .slice (some ⟨g, 0, none⟩) n cap ∧ base ≤ g ∧ w.rowIs g e (cap * size) F ∧ Pre F xs ∧ n ≤ cap ∧ cap ≤ maxLen := by
  obtain ⟨hl, h | ⟨g, cap, cur, rfl, hb, hg, hc, hm, hs, ht⟩⟩ := h
  · exact absurd h.1 hv
  · refine ⟨g, cap, fun i => cur[i]?.getD default, rfl, hb, ⟨cur, hg, hs, fun i hi => ?_⟩, fun i u hu => ?_, hc, hm⟩
    · have : i < cur.size := by omega
      simp [this]
    · rw [← ht, List.getElem?_take] at hu
      split at hu
      · simp at hu
        simp [hu]
      · cases hu
/-- A new list of jobs. -/
theorem KO.addRow (h : KO jn jx base w blk c cp kr kf v3) (hb : base ≤ w.heap.size) (h0 : Touch w w' (fun _ => False)) {g cg : Nat} {F : Nat → Value} (hg : w.heap.size ≤ g) (hr : w'.rowIs g 52 (cg * 5) F) (hc : jn kr ≤ cg) (hp : Pre F (jobCells (jx kr) (jn kr))) :
    KO jn jx base w' (upd blk (.trow kr) g) (upd c (.trow kr) (some ⟨52, cg * 5, F⟩)) (upd cp kr cg) (kr + 1) kf v3 := by
  have e : ∀ i, i < kr → upd blk (.trow kr) g (.trow i) = blk (.trow i) ∧ upd cp kr cg i = cp i := fun i hi => ⟨upd_other _ _ (by simp; omega), upd_other _ _ (by omega)⟩
  refine ⟨h.has.add (.trow kr) g _ hb hg h0 (fun _ _ _ _ => id) hr, fun i hi => ?_, ?_, by have := h.kfl; omega⟩
  · by_cases e1 : i = kr
    · subst e1
      exact ⟨F, by rw [upd_same, upd_same], by rw [upd_same]; exact hc, hp⟩
    · rw [upd_other _ _ (by simp; exact e1), upd_other _ _ e1]
      exact h.row i (by omega)
  · rw [hL_congr (fun i hi => e i (by have := h.kfl; omega))]
    exact kgrows_congr h.full (upd_other _ _ (by simp)) (upd_other _ _ (by simp))
theorem pre_set {F : Nat → Value} {jx : Nat → Jb} {n j : Nat} {v : Int} (hj : j < n) (hp : Pre F (jobCells jx n)) : Pre (fun q => if q = j * 5 + 4 then Value.int .u64 v else F q) (jobCells (upd jx j { jx j with h := v }) n) := by
  intro x u hu
  obtain ⟨i, q, hi, hq, rfl, rfl⟩ := jobCells_inv hu
  by_cases e : i = j
  · subst e
    rw [upd_same]
    by_cases e4 : q = 4
    · subst e4; exact if_pos rfl
    · refine (if_neg (by omega)).trans ?_
      rw [hp _ _ (jobCells_get jx n i q hi hq)]
      rcases (show q = 0 ∨ q = 1 ∨ q = 2 ∨ q = 3 by omega) with rfl | rfl | rfl | rfl <;> rfl
  · refine (if_neg (by omega)).trans ?_
    rw [upd_other _ _ e]
    exact hp _ _ (jobCells_get jx n i q hi hq)
/-- A job's value is written over. -/
theorem KO.setH (h : KO jn jx base w blk c cp kr kf v3) {i j : Nat} (hi : i < kr) (hj : j < jn i) (v : Int) : ∃ c', KO jn (upd jx i (upd (jx i) j { jx i j with h := v })) base (w.setCell ⟨blk (.trow i), j * 5 + 4, none⟩ (.int .u64 v)) blk c' cp kr kf v3 := by
  obtain ⟨F, e, hc, hp⟩ := h.row i hi
  refine ⟨_, h.has.set (.trow i) e (j * 5 + 4) (.int .u64 v), fun q hq => ?_, kgrows_congr h.full rfl (upd_other _ _ (by simp)), h.kfl⟩
  by_cases e1 : q = i
  · subst e1
    exact ⟨_, upd_same _ _ _, hc, by rw [upd_same]; exact pre_set hj hp⟩
  · rw [upd_other _ _ (by simp; exact e1), upd_other _ _ e1]
    exact h.row q hq
/-- It is appended to the outer row. -/
theorem KO.addF (h : KO jn jx base w blk c cp kr kf v3) (hk : kf < kr) (hb : base ≤ w.heap.size) (h0 : Touch w w1 (fun _ => False))
    (hown : w'.ownsRow base 50 1 v' (kf + 1) (hL jn blk cp kf ++ [.slice (some ⟨blk (.trow kf), 0, none⟩) (jn kf) (cp kf)])) (hg : w1.grownBy w' v3.ownBlock) (hat : v'.ownBlock = v3.ownBlock ∨ v'.ownBlock = some w1.heap.size) :
    ∃ blk' c', KO jn jx base w' blk' c' cp kr (kf + 1) v' := by
  obtain ⟨nb, F, cap, rfl, H, G, _, _⟩ := h.full.appended h.has hb h0 hown hg hat
  have e : ∀ i, upd blk .tasks nb (.trow i) = blk (.trow i) := fun i => upd_other _ _ (by simp)
  refine ⟨upd blk .tasks nb, upd c .tasks (some ⟨50, cap * 1, F⟩), ⟨H, fun i hi => by rw [upd_other _ _ (by simp)]; exact h.row i hi, ?_, hk⟩⟩
  rw [hL_next, hL_congr (fun i _ => ⟨e i, rfl⟩), e]
  exact G
/-- At the beginning. -/
theorem KO.start {jn : Nat → Nat} {jx : Nat → Nat → Jb} {w : World} {nh : Nat} (hm : nh ≤ maxLen) (cur : Array Value) (hs : cur.size = nh * 1) : ∃ blk c, KO jn jx w.heap.size (w.alloc (.cells cur 50)) blk c (fun _ => 0) 0 0 (.slice (some ⟨w.heap.size, 0, none⟩) 0 nh) := by
  have r : (w.alloc (.cells cur 50)).rowIs w.heap.size 50 (nh * 1) (fun i => cur[i]?.getD default) := ⟨cur, heap_alloc_new w _, hs, fun i hi => by
    have : i < cur.size := by omega
    simp [this]⟩
  refine ⟨fun x => match x with | .tasks => w.heap.size | _ => 0, fun x => match x with | .tasks => some ⟨50, nh * 1, fun i => cur[i]?.getD default⟩ | _ => none, ⟨⟨?_, ?_, ?_⟩, fun h hh => absurd hh (Nat.not_lt_zero h), .inr ⟨nh, _, rfl, rfl, Nat.zero_le _, hm, fun i u hu => by simp [hL] at hu⟩, Nat.le_refl _⟩⟩
  · intro a b x x' e e' h
    cases a <;> cases b <;> simp at e e' h <;> first | rfl | omega
  · intro a x e
    cases a <;> simp at e <;> subst e
    simpa using r
  · intro a x e
    cases a <;> simp at e <;> simp
/-- As it is seen. -/
theorem KO.sees {nh : Nat} (h : KO jn jx base w blk c cp nh nh v3) : ∃ ao cap, v3 = .slice ao nh cap ∧ SeesH w w.heap.size ao nh jn jx := by
  rcases Nat.eq_zero_or_pos nh with z | z
  · subst z
    rcases h.full with ⟨_, e, _⟩ | ⟨cap, F, e, _⟩
    · exact ⟨_, _, e, fun h hh => absurd hh (Nat.not_lt_zero h)⟩
    · exact ⟨_, _, e, fun h hh => absurd hh (Nat.not_lt_zero h)⟩
  · obtain ⟨b, cap, e, l, _, cc⟩ := grows_cell h.full h.has (hL_len _ _ _ _) z
    refine ⟨_, _, e, fun q hq => ?_⟩
    obtain ⟨F, er, hc, hp⟩ := h.row q hq
    refine ⟨b, 0, some ⟨blk (.trow q), 0, none⟩, cp q, rfl, l, by rw [Nat.zero_add]; exact cc _ _ (hL_get jn blk cp hq), fun j hj => ⟨blk (.trow q), 0, rfl, h.has.lt er, fun x hx => ?_⟩⟩
    have cl : j * 5 + x < cp q * 5 := by omega
    rw [Nat.zero_add, h.has.cell er (i := j * 5 + x) cl]
    exact congrArg some (hp _ _ (jobCells_get (jx q) (jn q) j x hj hx))
end

/-- How many of the first n jobs are to lay. -/
def cl (jb : Nat → Jb) : Nat → Nat
  | 0 => 0
  | n + 1 => cl jb n + (if (jb n).kind = 1 then 1 else 0)
/-- How many of the first n hands. -/
def ct (jn : Nat → Nat) (jb : Nat → Nat → Jb) : Nat → Nat
  | 0 => 0
  | n + 1 => ct jn jb n + cl (jb n) (jn n)
/-- The hands, numbered. -/
def nj (jn : Nat → Nat) (jb : Nat → Nat → Jb) (h j : Nat) : Jb := if (jb h j).kind = 1 then { jb h j with h := u64 ((ct jn jb h + cl (jb h) j : Nat) + 1) } else jb h j
theorem nj_kind (jn : Nat → Nat) (jb : Nat → Nat → Jb) (h j : Nat) : (nj jn jb h j).kind = (jb h j).kind := by unfold nj; split <;> rfl
/-- The law's number. -/
def nn (jn : Nat → Nat) (jb : Nat → Nat → Jb) (h j : Nat) : Int := u64 ((ct jn jb h + cl (jb h) j : Nat) : Int)
theorem nn_hand (jn : Nat → Nat) (jb : Nat → Nat → Jb) (h : Nat) : nn jn jb (h + 1) 0 = nn jn jb h (jn h) := by unfold nn; rfl
theorem nn_lay {jn : Nat → Nat} {jb : Nat → Nat → Jb} {h j : Nat} (k1 : (jb h j).kind = 1) : u64 (nn jn jb h j + 1) = nn jn jb h (j + 1) ∧ nj jn jb h j = { jb h j with h := nn jn jb h (j + 1) } := by
  have e : nn jn jb h (j + 1) = u64 ((ct jn jb h + cl (jb h) j : Nat) + 1) := by
    unfold nn
    show u64 ((ct jn jb h + (cl (jb h) j + (if (jb h j).kind = 1 then 1 else 0)) : Nat) : Int) = _
    rw [if_pos k1]
    rfl
  refine ⟨?_, ?_⟩
  · rw [e]
    unfold nn u64
    omega
  · unfold nj
    rw [if_pos k1, e]
theorem nn_not {jn : Nat → Nat} {jb : Nat → Nat → Jb} {h j : Nat} (k1 : ¬ (jb h j).kind = 1) : nn jn jb h (j + 1) = nn jn jb h j ∧ nj jn jb h j = jb h j := by
  refine ⟨?_, ?_⟩
  · unfold nn
    show u64 ((ct jn jb h + (cl (jb h) j + (if (jb h j).kind = 1 then 1 else 0)) : Nat) : Int) = _
    rw [if_neg k1]
    rfl
  · unfold nj
    rw [if_neg k1]
theorem nn_bounds (jn : Nat → Nat) (jb : Nat → Nat → Jb) (h j : Nat) : 0 ≤ nn jn jb h j ∧ nn jn jb h j ≤ 18446744073709551615 := ⟨u64_lo _, u64_hi _⟩
theorem nj_wf {jn : Nat → Nat} {jb : Nat → Nat → Jb} {h j : Nat} (hw : (jb h j).wf) : (nj jn jb h j).wf := by
  unfold nj
  split
  · exact ⟨u64_lo _, u64_hi _⟩
  · exact hw
theorem cl_le (jb : Nat → Jb) : ∀ n, cl jb n ≤ n
  | 0 => Nat.le_refl 0
  | n + 1 => by
    have := cl_le jb n
    show cl jb n + _ ≤ _
    split <;> omega
theorem cl_mono (jb : Nat → Jb) {i j : Nat} (h : i ≤ j) : cl jb i ≤ cl jb j := by
  induction h with
  | refl => exact Nat.le_refl _
  | step _ ih => exact Nat.le_trans ih (Nat.le_add_right _ _)
theorem nj_rise {P : Par} (hj : 0 < P.nh → P.jn 0 ≤ 256) (hz : 0 < P.nh) : Rise { P with jb := nj P.jn P.jb } := by
  have e : ∀ j, j < P.jn 0 → (P.jb 0 j).kind = 1 → (nj P.jn P.jb 0 j).h = (cl (P.jb 0) j : Int) + 1 := fun j hlt k1 => by
    unfold nj
    rw [if_pos k1]
    show u64 ((0 + cl (P.jb 0) j : Nat) + 1) = _
    have := cl_le (P.jb 0) j
    have := hj hz
    unfold u64
    omega
  refine ⟨fun j hlt k1 => ?_, fun i j hij hlt k1 k2 => ?_⟩
  · have k1 : (nj P.jn P.jb 0 j).kind = 1 := k1
    rw [nj_kind] at k1
    show 0 < (nj P.jn P.jb 0 j).h
    rw [e j hlt k1]
    omega
  · have k1 : (nj P.jn P.jb 0 i).kind = 1 := k1
    have k2 : (nj P.jn P.jb 0 j).kind = 1 := k2
    rw [nj_kind] at k1 k2
    show (nj P.jn P.jb 0 i).h < (nj P.jn P.jb 0 j).h
    have hlt : j < P.jn 0 := hlt
    rw [e j hlt k2, e i (by omega) k1]
    have m := cl_mono (P.jb 0) (show i + 1 ≤ j by omega)
    have s : cl (P.jb 0) (i + 1) = cl (P.jb 0) i + 1 := by
      show cl (P.jb 0) i + _ = _
      rw [if_pos k1]
    omega
/-- Hand h's jobs, the first j numbered. -/
def mx (jn : Nat → Nat) (jb : Nat → Nat → Jb) (h j : Nat) : Nat → Nat → Jb := fun a b => if a < h ∨ (a = h ∧ b < j) then nj jn jb a b else jb a b
theorem mx_row (jn : Nat → Nat) (jb : Nat → Nat → Jb) (h : Nat) : mx jn jb h 0 h = jb h := by
  funext b
  unfold mx
  rw [if_neg (by omega)]
theorem mx_yes {jn : Nat → Nat} {jb : Nat → Nat → Jb} {h j : Nat} (k1 : (jb h j).kind = 1) : upd (mx jn jb h j) h (upd (mx jn jb h j h) j { mx jn jb h j h j with h := nn jn jb h (j + 1) }) = mx jn jb h (j + 1) := by
  funext a b
  by_cases ea : a = h
  · subst ea
    rw [upd_same]
    by_cases eb : b = j
    · subst eb
      rw [upd_same]
      unfold mx
      rw [if_neg (by omega), if_pos (by omega), (nn_lay k1).2]
    · rw [upd_other _ _ eb]
      unfold mx
      by_cases c : b < j
      · rw [if_pos (by omega), if_pos (by omega)]
      · rw [if_neg (by omega), if_neg (by omega)]
  · rw [upd_other _ _ ea]
    unfold mx
    by_cases c : a < h
    · rw [if_pos (.inl c), if_pos (.inl c)]
    · rw [if_neg (by omega), if_neg (by omega)]
theorem mx_no {jn : Nat → Nat} {jb : Nat → Nat → Jb} {h j : Nat} (k1 : ¬ (jb h j).kind = 1) : mx jn jb h j = mx jn jb h (j + 1) := by
  funext a b
  unfold mx
  by_cases e : a = h ∧ b = j
  · obtain ⟨rfl, rfl⟩ := e
    rw [if_neg (by omega), if_pos (by omega), (nn_not k1).2]
  · by_cases c : a < h ∨ (a = h ∧ b < j)
    · rw [if_pos c, if_pos (by omega)]
    · rw [if_neg c, if_neg (by omega)]
theorem mx_next (jn : Nat → Nat) (jb : Nat → Nat → Jb) (h : Nat) : ∀ q, q < h + 1 → ∀ j, j < jn q → mx jn jb h (jn h) q j = mx jn jb (h + 1) 0 q j := fun q hq j hj => by
  unfold mx
  by_cases e : q = h
  · subst e
    rw [if_pos (.inr ⟨rfl, hj⟩), if_pos (.inl (by omega))]
  · rw [if_pos (.inl (by omega)), if_pos (.inl (by omega))]
theorem mx_all (jn : Nat → Nat) (jb : Nat → Nat → Jb) (nh : Nat) : ∀ q, q < nh → ∀ j, j < jn q → mx jn jb nh 0 q j = nj jn jb q j := fun q hq j hj => by
  unfold mx
  rw [if_pos (.inl hq)]
theorem mx_kind (jn : Nat → Nat) (jb : Nat → Nat → Jb) (h j : Nat) : mx jn jb h j h j = jb h j := by unfold mx; rw [if_neg (by omega)]
end Deal
end Go.Proofs.Ytdgolkdedghajaa

/-
  Lists of words as cells; append at an operation, whatever slice is appended.
-/
namespace Go.Proofs.Ytdgolkdedghajaa
open Go.RowKit
set_option linter.unusedVariables false
set_option linter.unusedSimpArgs false
set_option maxRecDepth 20000
namespace PKept

def lenV : Value → Nat
  | .slice _ n _ => n
  | _ => 0
theorem own_slice {w : World} {base : Nat} {e : TypeId} {size : Nat} {v : Value} {n : Nat} {xs : List Value} (h : w.ownsRow base e size v n xs) : ∃ ao cp, v = .slice ao n cp := by
  obtain ⟨hl, ⟨rfl, rfl⟩ | ⟨g, cap, cur, rfl, _⟩⟩ := h
  · exact ⟨_, _, rfl⟩
  · exact ⟨_, _, rfl⟩
theorem grown_below {B : Nat} {w wr w1 : World} {v : Value} {o : Obj} {e : TypeId} {n : Nat} {xs : List Value} (HB : Below B w wr) (hB : B ≤ wr.heap.size) (HO : wr.ownsRow B e 1 v n xs) (G : (wr.alloc o).grownBy w1 v.ownBlock) : Below B w w1 := by
  have HA : Below B w (wr.alloc o) := HB.alloc hB o
  refine ⟨G.os.trans HA.os, G.tape.trans HA.tape, G.output.trans HA.output, Nat.le_trans HA.size G.size, fun k hk => ?_⟩
  refine (G.block k (by simp; omega) (fun e => ?_)).trans (HA.block k hk)
  have := (HO.lt k e.symm).1
  omega

/-- Words as cells. -/
def wc (l : List Int) : List Value := l.map fun x => Value.int .u64 x
theorem wc_len (l : List Int) : (wc l).length = l.length := by simp [wc]
theorem wc_more (l : List Int) (x : Int) : wc (l ++ [x]) = wc l ++ [.int .u64 x] := by simp [wc]
theorem wc_get {l : List Int} {j : Nat} {x : Int} (h : l[j]? = some x) : (wc l)[j]? = some (.int .u64 x) := by simp [wc, h]

/-- append at an operation, the appended whatever slice: nil, empty or not. -/
theorem wp_append_opt {P : Program} {w : World} {o : Oper} {a : Act} {K : Act → World → Prop} {Q : Exit → Act → World → Prop} (s x : Operand) (t : TypeId)
    (ho : o.op = .call { callee := .builtin .append, args := #[s, x], argTypes := #[t, t] })
    (base : Nat) (e : TypeId) (i : TypeInfo) (z : Value) (size bytes : Nat) (ht : P.underlying t = some (.slice e)) (hi : P.info? e = some i) (hz : i.zero = some z)
    (hsize : i.size = size) (hby : i.bytes = bytes) (hzs : z.cells.size = size) (hsz : 0 < size)
    (v : Value) (n : Nat) (xs : List Value) (hs : a.eval s = v) (hown : w.ownsRow base e size v n xs)
    (ao : Option Addr) (m c : Nat) (news : List Value) (hx : a.eval x = .slice ao m c) (hnil : ao = none → m = 0 ∧ c = 0) (hl : news.length = m * size) (hnews : ∀ ad, ao = some ad → ∀ j u, news[j]? = some u → w.cell? (ad.add j) = some u) (h1 : ∀ u ∈ news, u.oneCell' = true)
    (h63 : n + m ≤ maxLen) (hbytes : (n + m) * bytes ≤ 140737488355328) (hbase : base ≤ w.heap.size)
    (h : ∀ v' w', w'.ownsRow base e size v' (n + m) (xs ++ news) → w.grownBy w' v.ownBlock → K (a.put o.dst v') w') : o.wp P a w K Q := by
  cases ao with
  | none =>
    obtain ⟨rfl, rfl⟩ := hnil rfl
    have hn : news = [] := by simpa using hl
    subst hn
    have hrun := run_append_owned_none (P := P) (w := w) base t o.type e i size ht hi v n xs hown
    unfold Oper.wp
    simp [execOp, ho, resolve, invoke, builtin, hs, hx, hrun, Result.andThen]
    exact h v w (by simpa using hown) ⟨rfl, rfl, rfl, Nat.le_refl _, fun _ _ _ => rfl⟩
  | some ad =>
    obtain ⟨v', w', hr, h2, h3, _, _⟩ := run_append_own_at (P := P) w base t o.type e i z size bytes ht hi hz hsize hby hzs hsz v n xs hown ad m c news hl (hnews ad rfl) h1 h63 hbytes hbase
    unfold Oper.wp execOp
    simp only [ho, resolve, invoke, builtin, Sem.run_bind, Sem.run_pure, Result.andThen_ok, List.map_toArray, List.map_cons, List.map_nil, hs, hx, hr]
    exact h v' w' h2 h3

theorem owns_keep {w w' : World} {base : Nat} {e : TypeId} {size : Nat} {v : Value} {n : Nat} {xs : List Value} (h : w.ownsRow base e size v n xs) (hk : ∀ b, v.ownBlock = some b → b < w.heap.size → w'.heap[b]? = w.heap[b]?) : w'.ownsRow base e size v n xs := by
  obtain ⟨hl, h | ⟨g, cap, cur, rfl, hb, hg, hc, hm, hs, ht⟩⟩ := h
  · exact ⟨hl, .inl h⟩
  · refine ⟨hl, .inr ⟨g, cap, cur, rfl, hb, ?_, hc, hm, hs, ht⟩⟩
    rw [hk g (by simp [Value.ownBlock]) ?_]
    · exact hg
    · rcases Nat.lt_or_ge g w.heap.size with l | l
      · exact l
      · rw [Array.getElem?_eq_none l] at hg
        cases hg

/-- What a row of one's own tells to one that appends it. -/
theorem own_news {w : World} {B : Nat} {ao : Option Addr} {n cp : Nat} {xs : List Value} {e : TypeId} (h : w.ownsRow B e 1 (.slice ao n cp) n xs) : (ao = none → n = 0 ∧ cp = 0) ∧ xs.length = n * 1 ∧ ∀ ad, ao = some ad → ∀ j u, xs[j]? = some u → w.cell? (ad.add j) = some u := by
  refine ⟨fun e0 => ?_, h.1, fun ad e0 j u hj => ?_⟩
  · obtain ⟨hl, ⟨e1, e2⟩ | ⟨g, cap, cur, e1, _⟩⟩ := h
    · cases e1; exact ⟨rfl, rfl⟩
    · rw [e0] at e1; cases e1
  · have hjl := (List.getElem?_eq_some_iff.1 hj).1
    have hl := h.1
    obtain ⟨g, cap, F, e1, hb, R, hp, hc, _⟩ := row_of_owns h (by omega)
    rw [e0] at e1
    cases e1
    rw [Go.WideShapes.add_plain, Nat.zero_add, R.cell (i := j) (by omega)]
    exact congrArg some (hp j u hj)
end PKept
end Go.Proofs.Ytdgolkdedghajaa
