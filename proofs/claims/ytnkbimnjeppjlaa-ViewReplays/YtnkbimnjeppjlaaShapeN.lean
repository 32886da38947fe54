/-
  Shape, without a program: the words of a memory and their names; no two have the same name.
-/
import Derived.Lib.ItoaNum
namespace Go.Proofs.Ytnkbimnjeppjlaa
open Go
set_option linter.unusedVariables false
set_option linter.unusedSimpArgs false
set_option maxRecDepth 20000
namespace Shape

/-- A right shape's five numbers. -/
structure Sh where
  o : Nat
  s : Nat
  h : Nat
  r : Nat
  k : Nat
structure Sh.Ok (x : Sh) : Prop where
  o1 : 1 ≤ x.o
  o2 : x.o ≤ 64
  s2 : x.s ≤ 4
  h1 : 1 ≤ x.h
  h2 : x.h ≤ 7
  r1 : 1 ≤ x.r
  r2 : x.r ≤ 8
  k2 : x.k ≤ 16

def bR (x : Sh) : Nat := 8 + x.h
def bK (x : Sh) : Nat := bR x + x.h * x.r
def bO (x : Sh) : Nat := bK x + x.k
def ow (x : Sh) : Nat := 3 + x.s
def size (x : Sh) : Nat := bO x + x.o * ow x

theorem sizes {x : Sh} (H : x.Ok) : x.h * x.r ≤ 56 ∧ x.o * ow x ≤ 448 ∧ 1 ≤ x.h * x.r ∧ 3 ≤ x.o * ow x ∧ size x ≤ 600 := by
  have a : x.h * x.r ≤ 7 * 8 := Nat.mul_le_mul H.h2 H.r2
  have b : x.o * ow x ≤ 64 * 7 := Nat.mul_le_mul H.o2 (by unfold ow; have := H.s2; omega)
  have c : 1 * 1 ≤ x.h * x.r := Nat.mul_le_mul H.h1 H.r1
  have d : 1 * 3 ≤ x.o * ow x := Nat.mul_le_mul H.o1 (by unfold ow; omega)
  have := H.h2
  have := H.k2
  unfold size bO bK bR
  omega

def heads : List (List UInt8) := [[112, 104, 97, 115, 101], [102, 114, 101, 101], [103, 114, 101, 121], [113, 117, 101, 117, 101], [97, 108, 108, 111, 99, 97, 116, 101, 100], [102, 114, 101, 101, 100], [113, 117, 101, 117, 101, 100], [99, 121, 99, 108, 101, 115]]
abbrev tAck : List UInt8 := [97, 99, 107]
abbrev tRoot : List UInt8 := [114, 111, 111, 116]
abbrev tWeak : List UInt8 := [119, 101, 97, 107]
abbrev tHead : List UInt8 := [104, 101, 97, 100]
abbrev tLink : List UInt8 := [108, 105, 110, 107]
abbrev tNext : List UInt8 := [110, 101, 120, 116]
abbrev tSlot : List UInt8 := [115, 108, 111, 116]

/-- A word of an object, counted from its head on. -/
def oword (i q : Nat) : List UInt8 × List Nat :=
  if q = 0 then (tHead, [i]) else if q = 1 then (tLink, [i]) else if q = 2 then (tNext, [i]) else (tSlot, [i, q - 3])
def word (x : Sh) (a : Nat) : List UInt8 × List Nat :=
  if a < 8 then (heads.getD a [], [])
  else if a < bR x then (tAck, [a - 8])
  else if a < bK x then (tRoot, [(a - bR x) / x.r, (a - bR x) % x.r])
  else if a < bO x then (tWeak, [a - bK x])
  else oword ((a - bO x) / ow x + 1) ((a - bO x) % ow x)

def tail : List Nat → List UInt8
  | [] => []
  | n :: ns => 32 :: (Lib.decDigits n ++ tail ns)
def render (y : List UInt8 × List Nat) : List UInt8 := y.1 ++ tail y.2
def nm (x : Sh) (a : Nat) : List UInt8 := render (word x a)

def idx (p : List UInt8) : Nat := heads.findIdx (fun q => q == p)
def back (x : Sh) (y : List UInt8 × List Nat) : Nat :=
  match y.2 with
  | [] => idx y.1
  | [n] => if y.1 = tAck then 8 + n else if y.1 = tWeak then bK x + n else if y.1 = tHead then bO x + (n - 1) * ow x else if y.1 = tLink then bO x + (n - 1) * ow x + 1 else bO x + (n - 1) * ow x + 2
  | n :: m :: _ => if y.1 = tRoot then bR x + n * x.r + m else bO x + (n - 1) * ow x + 3 + m

theorem idx_heads : ∀ i : Fin 8, idx (heads.getD i.val []) = i.val := by decide +kernel

theorem back_oword (x : Sh) (i q : Nat) (hq : q < ow x) : back x (oword (i + 1) q) = bO x + i * ow x + q := by
  unfold oword
  obtain rfl | rfl | rfl | ⟨p, rfl⟩ : q = 0 ∨ q = 1 ∨ q = 2 ∨ ∃ p, q = p + 3 := by
    by_cases a : q = 0
    · exact .inl a
    · by_cases b : q = 1
      · exact .inr (.inl b)
      · by_cases c : q = 2
        · exact .inr (.inr (.inl c))
        · exact .inr (.inr (.inr ⟨q - 3, by omega⟩))
  · rfl
  · rfl
  · rfl
  · show back x (tSlot, [i + 1, p + 3 - 3]) = _
    show bO x + (i + 1 - 1) * ow x + 3 + (p + 3 - 3) = _
    rw [Nat.add_sub_cancel, Nat.add_sub_cancel]
    omega

theorem back_word {x : Sh} (H : x.Ok) (a : Nat) : back x (word x a) = a := by
  unfold word
  by_cases h1 : a < 8
  · rw [if_pos h1]; exact idx_heads ⟨a, h1⟩
  · rw [if_neg h1]
    by_cases h2 : a < bR x
    · rw [if_pos h2]; show 8 + (a - 8) = a; omega
    · rw [if_neg h2]
      by_cases h3 : a < bK x
      · rw [if_pos h3]
        show bR x + (a - bR x) / x.r * x.r + (a - bR x) % x.r = a
        have := Nat.div_add_mod (a - bR x) x.r
        rw [Nat.mul_comm] at this
        omega
      · rw [if_neg h3]
        by_cases h4 : a < bO x
        · rw [if_pos h4]; show bK x + (a - bK x) = a; omega
        · rw [if_neg h4, back_oword x _ _ (Nat.mod_lt _ (by unfold ow; omega))]
          have := Nat.div_add_mod (a - bO x) (ow x)
          rw [Nat.mul_comm] at this
          omega

/-- No blank. -/
def NB (p : List UInt8) : Prop := ∀ b ∈ p, b ≠ 32
theorem cut {p q : List UInt8} {u v : List UInt8} (hp : NB p) (hq : NB q) (hu : u = [] ∨ ∃ t, u = 32 :: t) (hv : v = [] ∨ ∃ t, v = 32 :: t) (e : p ++ u = q ++ v) : p = q ∧ u = v := by
  induction p generalizing q with
  | nil =>
    cases q with
    | nil => exact ⟨rfl, e⟩
    | cons b q =>
      rcases hu with rfl | ⟨t, rfl⟩
      · simp at e
      · simp at e
        exact absurd e.1.symm (hq b (by simp))
  | cons a p ih =>
    cases q with
    | nil =>
      rcases hv with rfl | ⟨t, rfl⟩
      · simp at e
      · simp at e
        exact absurd e.1 (hp a (by simp))
    | cons b q =>
      simp at e
      obtain ⟨rfl, e⟩ := e
      obtain ⟨e1, e2⟩ := ih (fun b hb => hp b (by simp [hb])) (fun b hb => hq b (by simp [hb])) e
      exact ⟨by rw [e1], e2⟩

theorem dd_lt {n : Nat} (h : n < 100) : Lib.decDigits n = if n < 10 then [UInt8.ofNat (48 + n)] else [UInt8.ofNat (48 + n / 10), UInt8.ofNat (48 + n % 10)] := by
  by_cases h1 : n < 10
  · rw [if_pos h1]; exact Lib.decDigits_one h1
  · rw [if_neg h1]; exact Lib.decDigits_two h1 h
def dd (n : Nat) : List UInt8 := if n < 10 then [UInt8.ofNat (48 + n)] else [UInt8.ofNat (48 + n / 10), UInt8.ofNat (48 + n % 10)]
theorem dd_nb : ∀ n : Fin 100, (dd n.val).all (fun b => b != 32) = true := by decide +kernel
def undd : List UInt8 → Nat
  | [a] => a.toNat - 48
  | [a, b] => (a.toNat - 48) * 10 + (b.toNat - 48)
  | _ => 0
theorem undd_dd : ∀ n : Fin 100, undd (dd n.val) = n.val := by decide +kernel
theorem dec_nb {n : Nat} (h : n < 100) : NB (Lib.decDigits n) := by
  rw [dd_lt h]
  have := dd_nb ⟨n, h⟩
  rw [List.all_eq_true] at this
  exact fun b hb => by simpa using this b hb
theorem dec_inj {n m : Nat} (h : n < 100) (h' : m < 100) (e : Lib.decDigits n = Lib.decDigits m) : n = m := by
  rw [dd_lt h, dd_lt h'] at e
  have a := undd_dd ⟨n, h⟩
  have b := undd_dd ⟨m, h'⟩
  have c : dd n = dd m := e
  simp only at a b
  rw [← a, ← b, c]

theorem tail_head (ns : List Nat) : tail ns = [] ∨ ∃ t, tail ns = 32 :: t := by
  cases ns with
  | nil => exact .inl rfl
  | cons n ns => exact .inr ⟨_, rfl⟩
theorem tail_inj : ∀ {ns ms : List Nat}, (∀ n ∈ ns, n < 100) → (∀ n ∈ ms, n < 100) → tail ns = tail ms → ns = ms
  | [], [], _, _, _ => rfl
  | [], m :: ms, _, _, e => by simp [tail] at e
  | n :: ns, [], _, _, e => by simp [tail] at e
  | n :: ns, m :: ms, hn, hm, e => by
    simp only [tail, List.cons.injEq, true_and] at e
    obtain ⟨e1, e2⟩ := cut (dec_nb (hn n (by simp))) (dec_nb (hm m (by simp))) (tail_head ns) (tail_head ms) e
    rw [dec_inj (hn n (by simp)) (hm m (by simp)) e1, tail_inj (fun k hk => hn k (by simp [hk])) (fun k hk => hm k (by simp [hk])) e2]

theorem heads_nb : ∀ i : Fin 8, (heads.getD i.val []).all (fun b => b != 32) = true := by decide +kernel
theorem heads_ne : ∀ i : Fin 8, ¬ heads.getD i.val [] = [] := by decide +kernel

theorem word_ok {x : Sh} (H : x.Ok) {a : Nat} (ha : a < size x) : NB (word x a).1 ∧ ¬ (word x a).1 = [] ∧ ∀ n ∈ (word x a).2, n < 100 := by
  obtain ⟨z1, z2, z3, z4, z5⟩ := sizes H
  have nb : ∀ p : List UInt8, p.all (fun b => b != 32) = true → NB p := fun p hp b hb => by rw [List.all_eq_true] at hp; simpa using hp b hb
  have := H.h2
  have := H.k2
  have := H.r2
  have r1 := H.r1
  have := H.o2
  have := H.s2
  unfold word
  by_cases h1 : a < 8
  · rw [if_pos h1]; exact ⟨nb _ (heads_nb ⟨a, h1⟩), heads_ne ⟨a, h1⟩, by simp⟩
  · rw [if_neg h1]
    by_cases h2 : a < bR x
    · rw [if_pos h2]; refine ⟨nb tAck (by decide), by simp, ?_⟩
      simp only [List.mem_singleton, forall_eq]
      unfold bR at h2; omega
    · rw [if_neg h2]
      by_cases h3 : a < bK x
      · rw [if_pos h3]; refine ⟨nb tRoot (by decide), by simp, ?_⟩
        have d1 : (a - bR x) / x.r ≤ a - bR x := Nat.div_le_self _ _
        have d2 : (a - bR x) % x.r < x.r := Nat.mod_lt _ r1
        intro n hn
        simp only [List.mem_cons, List.not_mem_nil, or_false] at hn
        unfold bK at h3
        rcases hn with rfl | rfl <;> omega
      · rw [if_neg h3]
        by_cases h4 : a < bO x
        · rw [if_pos h4]; refine ⟨nb tWeak (by decide), by simp, ?_⟩
          simp only [List.mem_singleton, forall_eq]
          unfold bO at h4; omega
        · rw [if_neg h4]
          have hw : 0 < ow x := by unfold ow; omega
          have d1 : (a - bO x) / ow x < x.o := by
            rw [Nat.div_lt_iff_lt_mul hw]
            unfold size at ha; omega
          have d2 : (a - bO x) % ow x < ow x := Nat.mod_lt _ hw
          have d3 : ow x ≤ 7 := by unfold ow; omega
          generalize (a - bO x) / ow x = i at d1 ⊢
          generalize (a - bO x) % ow x = q at d2 ⊢
          unfold oword
          split
          · exact ⟨nb tHead (by decide), by simp, by simp only [List.mem_singleton, forall_eq]; omega⟩
          · split
            · exact ⟨nb tLink (by decide), by simp, by simp only [List.mem_singleton, forall_eq]; omega⟩
            · split
              · exact ⟨nb tNext (by decide), by simp, by simp only [List.mem_singleton, forall_eq]; omega⟩
              · refine ⟨nb tSlot (by decide), by simp, ?_⟩
                intro n hn
                simp only [List.mem_cons, List.not_mem_nil, or_false] at hn
                rcases hn with rfl | rfl <;> omega

theorem nm_ne {x : Sh} (H : x.Ok) {a : Nat} (ha : a < size x) : ¬ nm x a = [] := by
  have h := (word_ok H ha).2.1
  unfold nm render
  intro e
  exact h (List.append_eq_nil_iff.1 e).1
theorem nm_inj {x : Sh} (H : x.Ok) {a b : Nat} (ha : a < size x) (hb : b < size x) (e : nm x a = nm x b) : a = b := by
  obtain ⟨p1, p2, p3⟩ := word_ok H ha
  obtain ⟨q1, q2, q3⟩ := word_ok H hb
  obtain ⟨e1, e2⟩ := cut p1 q1 (tail_head _) (tail_head _) e
  have e3 := tail_inj p3 q3 e2
  rw [← back_word H a, ← back_word H b, Prod.ext e1 e3]
end Shape
end Go.Proofs.Ytnkbimnjeppjlaa
