/-
  View: what is sound: a handle, all that is held
-/
import Derived.Test.YtbffhfmhjnflbaaVwI
namespace Go.Proofs.Ytbffhfmhjnflbaa
open Go.RowKit
set_option linter.unusedVariables false
set_option linter.unusedSimpArgs false
set_option linter.unnecessarySimpa false
set_option maxRecDepth 20000
namespace Vw
open Shape

set_option maxHeartbeats 400000 in
theorem isObj_ok {n : Nat} {oa : Option Addr} {cb : Nat} {w : World} (k : Int) : Calls Try.prog 103 #[.slice oa n cb, .int .i64 k] w fun e w' => e = .returned (.bool (decide (1 ≤ k ∧ k ≤ (n : Int)))) ∧ w' = w := by
  by_cases q1 : 1 ≤ k
  · by_cases q2 : k ≤ (n : Int)
    · have hd : decide (1 ≤ k ∧ k ≤ (n : Int)) = true := by simp [q1, q2]
      rw [hd]
      clear hd
      go_enter Try.func103, Try.ntmps103
      go_wp2
      go_ret
      exact ⟨rfl, rfl⟩
    · have hd : decide (1 ≤ k ∧ k ≤ (n : Int)) = false := by simp [q2]
      rw [hd]
      clear hd
      go_enter Try.func103, Try.ntmps103
      go_wp2
      go_ret
      exact ⟨rfl, rfl⟩
  · have hd : decide (1 ≤ k ∧ k ≤ (n : Int)) = false := by simp [q1]
    rw [hd]
    clear hd
    go_enter Try.func103, Try.ntmps103
    go_wp2
    go_ret
    exact ⟨rfl, rfl⟩
theorem isObj_yes {n : Nat} {oa : Option Addr} {cb : Nat} {w : World} {k : Int} (h : 1 ≤ k ∧ k ≤ (n : Int)) : Calls Try.prog 103 #[.slice oa n cb, .int .i64 k] w fun e w' => e = .returned (.bool true) ∧ w' = w := by
  have := isObj_ok (n := n) (oa := oa) (cb := cb) (w := w) k
  rwa [show decide (1 ≤ k ∧ k ≤ (n : Int)) = true by simpa using h] at this
theorem isObj_no {n : Nat} {oa : Option Addr} {cb : Nat} {w : World} {k : Int} (h : ¬ (1 ≤ k ∧ k ≤ (n : Int))) : Calls Try.prog 103 #[.slice oa n cb, .int .i64 k] w fun e w' => e = .returned (.bool false) ∧ w' = w := by
  have := isObj_ok (n := n) (oa := oa) (cb := cb) (w := w) k
  rwa [show decide (1 ≤ k ∧ k ≤ (n : Int)) = false by simpa using h] at this

set_option maxHeartbeats 2000000 in
theorem good_ok {c : Cv} {a : Av} {w : World} (hS : Shows w c a) (hc : c.Ok) {u : Int} (h0 : 0 ≤ u) (h1 : u < 18446744073709551616) : Calls Try.prog 89 #[.slice a.oa c.no a.cb, .int .u64 u] w fun e w' => (∃ v : Int, e = .returned (.int .i64 v) ∧ Hid ((good c u ∧ (v == 0) = false) ∨ (¬ good c u ∧ v = 0))) ∧ Below w.heap.size w w' := by
  obtain ⟨aa, ca, ra, cr, wa, cw, oa, cb, fa, cf, ga, cg, qa, cq⟩ := a
  simp only
  have HS := hide hS
  have hno := hc.no
  clear hS hc
  have IX := hide (fun w1 => index_any u h0 h1 w1)
  have GX := hide (fun w1 => gen_any u h0 h1 w1)
  obtain ⟨x, hx⟩ : ∃ x, u % 4294967296 = x := ⟨_, rfl⟩
  obtain ⟨y, hy⟩ : ∃ y, u / 4294967296 = y := ⟨_, rfl⟩
  have hx0 : 0 ≤ x ∧ x < 4294967296 := by omega
  rw [hx] at IX
  rw [hy] at GX
  have GD := hide (show good c u ↔ 1 ≤ x ∧ x ≤ (c.no : Int) ∧ (c.ob (x.toNat - 1)).us = true ∧ (c.ob (x.toNat - 1)).ge = y by unfold good; rw [hx, hy])
  clear hx hy h0 h1
  by_cases q1 : 1 ≤ x
  · by_cases q2 : x ≤ (c.no : Int)
    · obtain ⟨k, rfl⟩ : ∃ k : Nat, x = (k : Int) + 1 := ⟨x.toNat - 1, by omega⟩
      have hko : k < c.no := by omega
      have hko2 : (k : Int) < (c.no : Int) := by omega
      obtain ⟨b, off, ai, ci, hoa, hbl, hoc, hse⟩ := HS.out.ob k hko
      simp only at hoa
      subst hoa
      cases hobx : c.ob k with
      | mk us li fi ta ag ge lk nx ns sl =>
      simp only [hobx] at hoc
      simp only [Ob.cell] at hoc
      have o0 : w.cell? ⟨b, off + k * 9, none⟩ = some (.bool us) := by simpa using hoc 0 (by decide)
      have o1 : w.cell? ⟨b, off + k * 9 + 1, none⟩ = some (.bool li) := by simpa using hoc 1 (by decide)
      have o2 : w.cell? ⟨b, off + k * 9 + 2, none⟩ = some (.bool fi) := by simpa using hoc 2 (by decide)
      have o3 : w.cell? ⟨b, off + k * 9 + 3, none⟩ = some (.bool ta) := by simpa using hoc 3 (by decide)
      have o4 : w.cell? ⟨b, off + k * 9 + 4, none⟩ = some (.int .i64 ag) := by simpa using hoc 4 (by decide)
      have o5 : w.cell? ⟨b, off + k * 9 + 5, none⟩ = some (.int .u64 ge) := by simpa using hoc 5 (by decide)
      have o6 : w.cell? ⟨b, off + k * 9 + 6, none⟩ = some (.int .u64 lk) := by simpa using hoc 6 (by decide)
      have o7 : w.cell? ⟨b, off + k * 9 + 7, none⟩ = some (.int .u64 nx) := by simpa using hoc 7 (by decide)
      have o8 : w.cell? ⟨b, off + k * 9 + 8, none⟩ = some (.slice ai ns ci) := by simpa using hoc 8 (by decide)
      have IFF := hide (show good c u ↔ us = true ∧ ge = y by
        rw [GD.out, show ((k : Int) + 1).toNat - 1 = k by omega, hobx]
        constructor
        · intro h; exact h.2.2
        · intro h; exact ⟨q1, q2, h⟩)
      have IO := hide (fun w1 => isObj_yes (n := c.no) (oa := some ⟨b, off, none⟩) (cb := cb) (w := w1) (k := (k : Int) + 1) (by omega))
      clear hobx hoc hse
      go_enter Try.func89, Try.ntmps89
      go_upto_region 5 with (first | (go_at_call 99; refine (IX.out _).mono ?_; rintro e w1 ⟨rfl, hq⟩; obtain rfl := hq.symm; clear hq) | (go_at_call 103; refine (IO.out _).mono ?_; rintro e w1 ⟨rfl, hq⟩; obtain rfl := hq.symm; clear hq))
      obtain ⟨W4, hW4, B4, R4⟩ := obox w us li fi ta ag ge lk nx ai ns ci
      have HB4 := hide B4
      have p0 : W4.cell? ⟨w.heap.size, 0, none⟩ = some (.bool us) := R4.cell (i := 0) (by decide)
      have p5 : W4.cell? ⟨w.heap.size, 5, none⟩ = some (.int .u64 ge) := R4.cell (i := 5) (by decide)
      simp only [hW4]
      clear hW4 o0 o1 o2 o3 o4 o5 o6 o7 o8 R4 B4
      cases us
      · have NO := hide (show ¬ good c u from fun h => absurd (IFF.out.1 h).1 (by simp))
        go_quiet (fail)
        go_wp2
        go_ret
        exact ⟨⟨_, rfl, .inr ⟨NO.out, rfl⟩⟩, below_drewN HB4.out _⟩
      · by_cases hg : ge = y
        · have hg2 : (ge != y) = false := by simp [hg]
          have YES := hide (IFF.out.2 ⟨rfl, hg⟩)
          clear IFF hg
          go_quiet ((go_at_call 98; exact Calls.quiet_of_same (GX.out _)))
          go_wp2
          go_ret
          exact ⟨⟨_, rfl, .inl ⟨YES.out, by simp; omega⟩⟩, below_drewN HB4.out _⟩
        · have hg2 : (ge != y) = true := by simp [hg]
          have NO := hide (show ¬ good c u from fun h => hg (IFF.out.1 h).2)
          clear IFF hg
          go_quiet ((go_at_call 98; exact Calls.quiet_of_same (GX.out _)))
          go_wp2
          go_ret
          exact ⟨⟨_, rfl, .inr ⟨NO.out, rfl⟩⟩, below_drewN HB4.out _⟩
    · have NO := hide (show ¬ good c u from fun h => q2 (GD.out.1 h).2.1)
      have IO := hide (fun w1 => isObj_no (n := c.no) (oa := oa) (cb := cb) (w := w1) (k := x) (by omega))
      go_enter Try.func89, Try.ntmps89
      go_wp2_with (first | (go_at_call 99; refine (IX.out _).mono ?_; rintro e w1 ⟨rfl, hq⟩; obtain rfl := hq.symm; clear hq) | (go_at_call 103; refine (IO.out _).mono ?_; rintro e w1 ⟨rfl, hq⟩; obtain rfl := hq.symm; clear hq))
      go_ret
      exact ⟨⟨_, rfl, .inr ⟨NO.out, rfl⟩⟩, Below.refl _ _⟩
  · have NO := hide (show ¬ good c u from fun h => q1 (GD.out.1 h).1)
    have IO := hide (fun w1 => isObj_no (n := c.no) (oa := oa) (cb := cb) (w := w1) (k := x) (by omega))
    go_enter Try.func89, Try.ntmps89
    go_wp2_with (first | (go_at_call 99; refine (IX.out _).mono ?_; rintro e w1 ⟨rfl, hq⟩; obtain rfl := hq.symm; clear hq) | (go_at_call 103; refine (IO.out _).mono ?_; rintro e w1 ⟨rfl, hq⟩; obtain rfl := hq.symm; clear hq))
    go_ret
    exact ⟨⟨_, rfl, .inr ⟨NO.out, rfl⟩⟩, Below.refl _ _⟩

/-- Lists of handles that are held: where they lie, and what they show. -/
structure He where
  ao : Option Addr
  n : Nat
  cap : Nat
  g : Nat → Int
def He.v (x : He) : Value := .slice x.ao x.n x.cap
structure HeOk (w : World) (E : List He) : Prop where
  see : ∀ x, x ∈ E → Sees w w.heap.size x.ao x.n x.g
  len : ∀ x, x ∈ E → x.n ≤ 70000
  word : ∀ x, x ∈ E → ∀ i, i < x.n → 0 ≤ x.g i ∧ x.g i < 18446744073709551616
def allOk (c : Cv) (E : List He) : Prop := ∀ x, x ∈ E → ∀ i, i < x.n → hOk c (x.g i)
theorem HeOk.on {w w' : World} {E : List He} (h : HeOk w E) (hb : Below w.heap.size w w') : HeOk w' E := ⟨fun x hx => sees_on (h.see x hx) hb, h.len, h.word⟩
theorem HeOk.app {w : World} {E F : List He} (h : HeOk w E) (h' : HeOk w F) : HeOk w (E ++ F) :=
  ⟨fun x hx => (List.mem_append.1 hx).elim (h.see x) (h'.see x), fun x hx => (List.mem_append.1 hx).elim (h.len x) (h'.len x), fun x hx => (List.mem_append.1 hx).elim (h.word x) (h'.word x)⟩
theorem allOk_app {c : Cv} {E F : List He} : allOk c (E ++ F) ↔ allOk c E ∧ allOk c F :=
  ⟨fun h => ⟨fun x hx => h x (List.mem_append.2 (.inl hx)), fun x hx => h x (List.mem_append.2 (.inr hx))⟩, fun h x hx => (List.mem_append.1 hx).elim (h.1 x) (h.2 x)⟩
def hcs (E : List He) : List Value := E.map He.v
theorem hcs_app (E F : List He) : hcs (E ++ F) = hcs E ++ hcs F := by simp [hcs]
theorem hcs_len (E : List He) : (hcs E).length = E.length := by simp [hcs]
theorem hcs_one (E : List He) : ∀ u ∈ hcs E, u.oneCell' = true := by intro u hu; obtain ⟨i, _, rfl⟩ := List.mem_map.1 hu; rfl
/-- The roots' lists. -/
theorem roots_he {w : World} {c : Cv} {a : Av} (hS : Shows w c a) (hc : c.Ok) (hn : 0 < c.nr) : ∃ b off, a.ra = some ⟨b, off, none⟩ ∧ b < w.heap.size ∧ ∃ F : List He, F.length = c.nr ∧ HeOk w F ∧ (∀ j u, (hcs F)[j]? = some u → w.cell? ⟨b, off + j, none⟩ = some u) ∧ (allOk c F ↔ ∀ j, j < c.nr → ∀ i, i < c.rn j → hOk c (c.rt j i)) := by
  obtain ⟨b, off, _, _, e0, hb, _, _⟩ := hS.rt 0 hn
  refine ⟨b, off, e0, hb, ?_⟩
  have hch : ∀ m, m ≤ c.nr → ∃ F : List He, F.length = m ∧ HeOk w F ∧ (∀ j u, (hcs F)[j]? = some u → w.cell? ⟨b, off + j, none⟩ = some u) ∧ (allOk c F ↔ ∀ j, j < m → ∀ i, i < c.rn j → hOk c (c.rt j i)) := by
    intro m
    induction m with
    | zero => intro _; exact ⟨[], rfl, ⟨by simp, by simp, by simp⟩, by simp [hcs], by simp [allOk]⟩
    | succ m ih =>
      intro hm
      obtain ⟨F, h1, h2, h3, h4⟩ := ih (by omega)
      obtain ⟨b', off', ai, ci, e1, _, hcell, hsee⟩ := hS.rt m (by omega)
      rw [e0] at e1
      cases e1
      refine ⟨F ++ [⟨ai, c.rn m, ci, c.rt m⟩], by simp [h1], h2.app ⟨fun x hx => ?_, fun x hx => ?_, fun x hx => ?_⟩, fun j u hj => ?_, ?_⟩
      · simp at hx; subst hx; exact hsee
      · simp at hx; subst hx; exact hc.rn m (by omega)
      · simp at hx; subst hx; exact hc.rt m (by omega)
      · rw [hcs_app] at hj
        by_cases hjm : j < m
        · rw [List.getElem?_append_left (by rw [hcs_len]; omega)] at hj
          exact h3 j u hj
        · rw [List.getElem?_append_right (by rw [hcs_len]; omega), hcs_len, h1] at hj
          have hl := (List.getElem?_eq_some_iff.1 hj).1
          simp [hcs] at hl
          have hjm2 : j = m := by omega
          subst hjm2
          simp [hcs, He.v] at hj
          rw [← hj]
          exact hcell
      · rw [allOk_app, h4]
        constructor
        · intro h j hj
          by_cases hjm : j < m
          · exact h.1 j hjm
          · cases (show j = m by omega)
            exact h.2 ⟨ai, c.rn m, ci, c.rt m⟩ (by simp)
        · intro h
          refine ⟨fun j hj => h j (by omega), fun x hx => ?_⟩
          simp at hx
          subst hx
          exact h m (by omega)
  exact hch c.nr (Nat.le_refl _)
end Vw
end Go.Proofs.Ytbffhfmhjnflbaa
