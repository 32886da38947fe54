/-
  Lemmas: VwJ, VwK, VwR.
-/
import Derived.Test.YtecjegjnnahddaaGreatTp08
/-
  View: what is sound: a handle, all that is held
-/
namespace Go.Proofs.YtecjegjnnahddaaGreat
open Go.RowKit
set_option linter.unusedVariables false
set_option linter.unusedSimpArgs false
set_option linter.unnecessarySimpa false
set_option maxRecDepth 20000
namespace Vw
open Shape

set_option maxHeartbeats 400000 in
theorem isObj_ok {n : Nat} {oa : Option Addr} {cb : Nat} {w : World} (k : Int) : Calls Tryz.prog 104 #[.slice oa n cb, .int .i64 k] w fun e w' => e = .returned (.bool (decide (1 ≤ k ∧ k ≤ (n : Int)))) ∧ w' = w := by
  by_cases q1 : 1 ≤ k
  · by_cases q2 : k ≤ (n : Int)
    · have hd : decide (1 ≤ k ∧ k ≤ (n : Int)) = true := by simp [q1, q2]
      rw [hd]
      clear hd
      go_enter Tryz.func104, Tryz.ntmps104
      go_wp2
      go_ret
      exact ⟨rfl, rfl⟩
    · have hd : decide (1 ≤ k ∧ k ≤ (n : Int)) = false := by simp [q2]
      rw [hd]
      clear hd
      go_enter Tryz.func104, Tryz.ntmps104
      go_wp2
      go_ret
      exact ⟨rfl, rfl⟩
  · have hd : decide (1 ≤ k ∧ k ≤ (n : Int)) = false := by simp [q1]
    rw [hd]
    clear hd
    go_enter Tryz.func104, Tryz.ntmps104
    go_wp2
    go_ret
    exact ⟨rfl, rfl⟩
theorem isObj_yes {n : Nat} {oa : Option Addr} {cb : Nat} {w : World} {k : Int} (h : 1 ≤ k ∧ k ≤ (n : Int)) : Calls Tryz.prog 104 #[.slice oa n cb, .int .i64 k] w fun e w' => e = .returned (.bool true) ∧ w' = w := by
  have := isObj_ok (n := n) (oa := oa) (cb := cb) (w := w) k
  rwa [show decide (1 ≤ k ∧ k ≤ (n : Int)) = true by simpa using h] at this
theorem isObj_no {n : Nat} {oa : Option Addr} {cb : Nat} {w : World} {k : Int} (h : ¬ (1 ≤ k ∧ k ≤ (n : Int))) : Calls Tryz.prog 104 #[.slice oa n cb, .int .i64 k] w fun e w' => e = .returned (.bool false) ∧ w' = w := by
  have := isObj_ok (n := n) (oa := oa) (cb := cb) (w := w) k
  rwa [show decide (1 ≤ k ∧ k ≤ (n : Int)) = false by simpa using h] at this

set_option maxHeartbeats 2000000 in
theorem good_ok {c : Cv} {a : Av} {w : World} (hS : Shows w c a) (hc : c.Ok) {u : Int} (h0 : 0 ≤ u) (h1 : u < 18446744073709551616) : Calls Tryz.prog 93 #[.slice a.oa c.no a.cb, .int .u64 u] w fun e w' => (∃ v : Int, e = .returned (.int .i64 v) ∧ Hid ((good c u ∧ (v == 0) = false) ∨ (¬ good c u ∧ v = 0))) ∧ Below w.heap.size w w' := by
  obtain ⟨aa, ca, ra, cr, wa, cw, oa, cb, fa, cf, ga, cg, qa, cq⟩ := a
  simp only
  have HS := hide hS
  have hno := hc.no
  clear hS hc
  have IX := hide (fun w1 => index_any u h0 h1 w1)
  have GX := hide (fun w1 => gen_any u h0 h1 w1)
  obtain ⟨x, hx⟩ : ∃ x, u % 4294967296 = x := ⟨_, rfl⟩
  obtain ⟨y, hy⟩ : ∃ y, u / 4294967296 = y := ⟨_, rfl⟩
  have hx0 : 0 ≤ x ∧ x < 4294967296 := by omega
  rw [hx] at IX
  rw [hy] at GX
  have GD := hide (show good c u ↔ 1 ≤ x ∧ x ≤ (c.no : Int) ∧ (c.ob (x.toNat - 1)).us = true ∧ (c.ob (x.toNat - 1)).ge = y by unfold good; rw [hx, hy])
  clear hx hy h0 h1
  by_cases q1 : 1 ≤ x
  · by_cases q2 : x ≤ (c.no : Int)
    · obtain ⟨k, rfl⟩ : ∃ k : Nat, x = (k : Int) + 1 := ⟨x.toNat - 1, by omega⟩
      have hko : k < c.no := by omega
      have hko2 : (k : Int) < (c.no : Int) := by omega
      obtain ⟨b, off, ai, ci, hoa, hbl, hoc, hse⟩ := HS.out.ob k hko
      simp only at hoa
      subst hoa
      cases hobx : c.ob k with
      | mk us li fi ta ag ge lk nx ns sl =>
      simp only [hobx] at hoc
      simp only [Ob.cell] at hoc
      have o0 : w.cell? ⟨b, off + k * 9, none⟩ = some (.bool us) := by simpa using hoc 0 (by decide)
      have o1 : w.cell? ⟨b, off + k * 9 + 1, none⟩ = some (.bool li) := by simpa using hoc 1 (by decide)
      have o2 : w.cell? ⟨b, off + k * 9 + 2, none⟩ = some (.bool fi) := by simpa using hoc 2 (by decide)
      have o3 : w.cell? ⟨b, off + k * 9 + 3, none⟩ = some (.bool ta) := by simpa using hoc 3 (by decide)
      have o4 : w.cell? ⟨b, off + k * 9 + 4, none⟩ = some (.int .i64 ag) := by simpa using hoc 4 (by decide)
      have o5 : w.cell? ⟨b, off + k * 9 + 5, none⟩ = some (.int .u64 ge) := by simpa using hoc 5 (by decide)
      have o6 : w.cell? ⟨b, off + k * 9 + 6, none⟩ = some (.int .u64 lk) := by simpa using hoc 6 (by decide)
      have o7 : w.cell? ⟨b, off + k * 9 + 7, none⟩ = some (.int .u64 nx) := by simpa using hoc 7 (by decide)
      have o8 : w.cell? ⟨b, off + k * 9 + 8, none⟩ = some (.slice ai ns ci) := by simpa using hoc 8 (by decide)
      have IFF := hide (show good c u ↔ us = true ∧ ge = y by
        rw [GD.out, show ((k : Int) + 1).toNat - 1 = k by omega, hobx]
        constructor
        · intro h; exact h.2.2
        · intro h; exact ⟨q1, q2, h⟩)
      have IO := hide (fun w1 => isObj_yes (n := c.no) (oa := some ⟨b, off, none⟩) (cb := cb) (w := w1) (k := (k : Int) + 1) (by omega))
      clear hobx hoc hse
      go_enter Tryz.func93, Tryz.ntmps93
      go_upto_region 5 with (first | (go_at_call 100; refine (IX.out _).mono ?_; rintro e w1 ⟨rfl, hq⟩; obtain rfl := hq.symm; clear hq) | (go_at_call 104; refine (IO.out _).mono ?_; rintro e w1 ⟨rfl, hq⟩; obtain rfl := hq.symm; clear hq))
      obtain ⟨W4, hW4, B4, R4⟩ := obox w us li fi ta ag ge lk nx ai ns ci
      have HB4 := hide B4
      have p0 : W4.cell? ⟨w.heap.size, 0, none⟩ = some (.bool us) := R4.cell (i := 0) (by decide)
      have p5 : W4.cell? ⟨w.heap.size, 5, none⟩ = some (.int .u64 ge) := R4.cell (i := 5) (by decide)
      simp only [hW4]
      clear hW4 o0 o1 o2 o3 o4 o5 o6 o7 o8 R4 B4
      cases us
      · have NO := hide (show ¬ good c u from fun h => absurd (IFF.out.1 h).1 (by simp))
        go_quiet (fail)
        go_wp2
        go_ret
        exact ⟨⟨_, rfl, .inr ⟨NO.out, rfl⟩⟩, below_drewN HB4.out _⟩
      · by_cases hg : ge = y
        · have hg2 : (ge != y) = false := by simp [hg]
          have YES := hide (IFF.out.2 ⟨rfl, hg⟩)
          clear IFF hg
          go_quiet ((go_at_call 99; exact Calls.quiet_of_same (GX.out _)))
          go_wp2
          go_ret
          exact ⟨⟨_, rfl, .inl ⟨YES.out, by simp; omega⟩⟩, below_drewN HB4.out _⟩
        · have hg2 : (ge != y) = true := by simp [hg]
          have NO := hide (show ¬ good c u from fun h => hg (IFF.out.1 h).2)
          clear IFF hg
          go_quiet ((go_at_call 99; exact Calls.quiet_of_same (GX.out _)))
          go_wp2
          go_ret
          exact ⟨⟨_, rfl, .inr ⟨NO.out, rfl⟩⟩, below_drewN HB4.out _⟩
    · have NO := hide (show ¬ good c u from fun h => q2 (GD.out.1 h).2.1)
      have IO := hide (fun w1 => isObj_no (n := c.no) (oa := oa) (cb := cb) (w := w1) (k := x) (by omega))
      go_enter Tryz.func93, Tryz.ntmps93
      go_wp2_with (first | (go_at_call 100; refine (IX.out _).mono ?_; rintro e w1 ⟨rfl, hq⟩; obtain rfl := hq.symm; clear hq) | (go_at_call 104; refine (IO.out _).mono ?_; rintro e w1 ⟨rfl, hq⟩; obtain rfl := hq.symm; clear hq))
      go_ret
      exact ⟨⟨_, rfl, .inr ⟨NO.out, rfl⟩⟩, Below.refl _ _⟩
  · have NO := hide (show ¬ good c u from fun h => q1 (GD.out.1 h).1)
    have IO := hide (fun w1 => isObj_no (n := c.no) (oa := oa) (cb := cb) (w := w1) (k := x) (by omega))
    go_enter Tryz.func93, Tryz.ntmps93
    go_wp2_with (first | (go_at_call 100; refine (IX.out _).mono ?_; rintro e w1 ⟨rfl, hq⟩; obtain rfl := hq.symm; clear hq) | (go_at_call 104; refine (IO.out _).mono ?_; rintro e w1 ⟨rfl, hq⟩; obtain rfl := hq.symm; clear hq))
    go_ret
    exact ⟨⟨_, rfl, .inr ⟨NO.out, rfl⟩⟩, Below.refl _ _⟩

/-- Lists of handles that are held: where they lie, and what they show. -/
structure He where
  ao : Option Addr
  n : Nat
  cap : Nat
  g : Nat → Int
def He.v (x : He) : Value := .slice x.ao x.n x.cap
structure HeOk (w : World) (E : List He) : Prop where
  see : ∀ x, x ∈ E → Sees w w.heap.size x.ao x.n x.g
  len : ∀ x, x ∈ E → x.n ≤ 70000
  word : ∀ x, x ∈ E → ∀ i, i < x.n → 0 ≤ x.g i ∧ x.g i < 18446744073709551616
def allOk (c : Cv) (E : List He) : Prop := ∀ x, x ∈ E → ∀ i, i < x.n → hOk c (x.g i)
theorem HeOk.on {w w' : World} {E : List He} (h : HeOk w E) (hb : Below w.heap.size w w') : HeOk w' E := ⟨fun x hx => sees_on (h.see x hx) hb, h.len, h.word⟩
theorem HeOk.app {w : World} {E F : List He} (h : HeOk w E) (h' : HeOk w F) : HeOk w (E ++ F) :=
  ⟨fun x hx => (List.mem_append.1 hx).elim (h.see x) (h'.see x), fun x hx => (List.mem_append.1 hx).elim (h.len x) (h'.len x), fun x hx => (List.mem_append.1 hx).elim (h.word x) (h'.word x)⟩
theorem allOk_app {c : Cv} {E F : List He} : allOk c (E ++ F) ↔ allOk c E ∧ allOk c F :=
  ⟨fun h => ⟨fun x hx => h x (List.mem_append.2 (.inl hx)), fun x hx => h x (List.mem_append.2 (.inr hx))⟩, fun h x hx => (List.mem_append.1 hx).elim (h.1 x) (h.2 x)⟩
def hcs (E : List He) : List Value := E.map He.v
theorem hcs_app (E F : List He) : hcs (E ++ F) = hcs E ++ hcs F := by simp [hcs]
theorem hcs_len (E : List He) : (hcs E).length = E.length := by simp [hcs]
theorem hcs_one (E : List He) : ∀ u ∈ hcs E, u.oneCell' = true := by intro u hu; obtain ⟨i, _, rfl⟩ := List.mem_map.1 hu; rfl
/-- The roots' lists. -/
theorem roots_he {w : World} {c : Cv} {a : Av} (hS : Shows w c a) (hc : c.Ok) (hn : 0 < c.nr) : ∃ b off, a.ra = some ⟨b, off, none⟩ ∧ b < w.heap.size ∧ ∃ F : List He, F.length = c.nr ∧ HeOk w F ∧ (∀ j u, (hcs F)[j]? = some u → w.cell? ⟨b, off + j, none⟩ = some u) ∧ (allOk c F ↔ ∀ j, j < c.nr → ∀ i, i < c.rn j → hOk c (c.rt j i)) := by
  obtain ⟨b, off, _, _, e0, hb, _, _⟩ := hS.rt 0 hn
  refine ⟨b, off, e0, hb, ?_⟩
  have hch : ∀ m, m ≤ c.nr → ∃ F : List He, F.length = m ∧ HeOk w F ∧ (∀ j u, (hcs F)[j]? = some u → w.cell? ⟨b, off + j, none⟩ = some u) ∧ (allOk c F ↔ ∀ j, j < m → ∀ i, i < c.rn j → hOk c (c.rt j i)) := by
    intro m
    induction m with
    | zero => intro _; exact ⟨[], rfl, ⟨by simp, by simp, by simp⟩, by simp [hcs], by simp [allOk]⟩
    | succ m ih =>
      intro hm
      obtain ⟨F, h1, h2, h3, h4⟩ := ih (by omega)
      obtain ⟨b', off', ai, ci, e1, _, hcell, hsee⟩ := hS.rt m (by omega)
      rw [e0] at e1
      cases e1
      refine ⟨F ++ [⟨ai, c.rn m, ci, c.rt m⟩], by simp [h1], h2.app ⟨fun x hx => ?_, fun x hx => ?_, fun x hx => ?_⟩, fun j u hj => ?_, ?_⟩
      · simp at hx; subst hx; exact hsee
      · simp at hx; subst hx; exact hc.rn m (by omega)
      · simp at hx; subst hx; exact hc.rt m (by omega)
      · rw [hcs_app] at hj
        by_cases hjm : j < m
        · rw [List.getElem?_append_left (by rw [hcs_len]; omega)] at hj
          exact h3 j u hj
        · rw [List.getElem?_append_right (by rw [hcs_len]; omega), hcs_len, h1] at hj
          have hl := (List.getElem?_eq_some_iff.1 hj).1
          simp [hcs] at hl
          have hjm2 : j = m := by omega
          subst hjm2
          simp [hcs, He.v] at hj
          rw [← hj]
          exact hcell
      · rw [allOk_app, h4]
        constructor
        · intro h j hj
          by_cases hjm : j < m
          · exact h.1 j hjm
          · cases (show j = m by omega)
            exact h.2 ⟨ai, c.rn m, ci, c.rt m⟩ (by simp)
        · intro h
          refine ⟨fun j hj => h j (by omega), fun x hx => ?_⟩
          simp at hx
          subst hx
          exact h m (by omega)
  exact hch c.nr (Nat.le_refl _)
end Vw
end Go.Proofs.YtecjegjnnahddaaGreat

/-
  View: what is sound: all that is held
-/
namespace Go.Proofs.YtecjegjnnahddaaGreat
open Go.RowKit
set_option linter.unusedVariables false
set_option linter.unusedSimpArgs false
set_option linter.unnecessarySimpa false
set_option maxRecDepth 20000
namespace Vw
open Shape

set_option maxHeartbeats 4000000 in
theorem handlesGood_ok {c : Cv} {a : Av} {w : World} (hS : Shows w c a) (hc : c.Ok) (hnr : 0 < c.nr) : Calls Tryz.prog 71 #[vl c a] w fun e w' => Tells e (HaOk c) ∧ Below w.heap.size w w' := by
  obtain ⟨aa, ca, ra, cr, wa, cw, oa, cb, fa, cf, ga, cg, qa, cq⟩ := a
  simp only [vl]
  have HS := hide hS
  have HC := hide hc
  have hno := hc.no
  clear hS hc
  obtain ⟨W0, hW0, B0, R0⟩ := vbox w c ⟨aa, ca, ra, cr, wa, cw, oa, cb, fa, cf, ga, cg, qa, cq⟩
  simp only at hW0 R0
  have HB := hide B0
  have HR := hide R0
  have l0 : w.heap.size < W0.heap.size := R0.lt

  obtain ⟨iS, hiS, hzS, hsS, hyS⟩ := infoS
  have hnr2 := HC.out.nr
  obtain ⟨bq, oq, hra, hbq, F, hF1, hF2, hF3, hF4⟩ := roots_he HS.out HC.out hnr
  simp only at hra
  subst hra
  have HF2 := hide hF2
  have HF3 := hide hF3
  have HF4 := hide hF4
  have c5 : W0.cell? ⟨w.heap.size, 5, none⟩ = some (.slice wa c.nw cw) := R0.cell (i := 5) (by decide)
  obtain ⟨W1, hW1⟩ : ∃ W1, W0.alloc (.cells #[.slice wa c.nw cw] 25) = W1 := ⟨_, rfl⟩
  have B1 : Below W0.heap.size W0 W1 := by rw [← hW1]; exact (Below.refl _ W0).alloc (Nat.le_refl _) _
  have O1 := hide (show W1.ownsRow W0.heap.size 25 1 (.slice (some ⟨W0.heap.size, 0, none⟩) 1 1) 1 (hcs [(⟨wa, c.nw, cw, c.wk⟩ : He)]) by
    rw [← hW1]
    exact ⟨rfl, .inr ⟨W0.heap.size, 1, #[.slice wa c.nw cw], rfl, Nat.le_refl _, heap_alloc_new W0 _, Nat.le_refl _, by unfold maxLen; omega, rfl, rfl⟩⟩)
  have HB1 := hide B1
  have c4 : W1.cell? ⟨w.heap.size, 4, none⟩ = some (.slice (some ⟨bq, oq, none⟩) c.nr cr) := (row_on R0 B1).cell (i := 4) (by decide)
  have HBw1 := hide (HB.out.trans (B1.mono HB.out.size))
  clear B0 R0 B1 hF2 hF3 hF4
  go_enter Tryz.func71, Tryz.ntmps71
  go_upto_region 3 with (at_builtin; refine wpList_append_own_at _ rfl (.tmp 13) (.tmp 15) 26 rfl W0.heap.size 25 iS (.slice none 0 0) 1 24 Tryz.underlying26 hiS hzS hsS hyS rfl (by decide) (.slice (some ⟨W0.heap.size, 0, none⟩) 1 1) 1 (hcs [(⟨wa, c.nw, cw, c.wk⟩ : He)]) rfl O1.out ⟨bq, oq, none⟩ c.nr cr (hcs F) rfl (by rw [hcs_len]; omega) (fun j u hj => by rw [Go.WideShapes.add_plain]; exact (HBw1.out.cell (p := ⟨bq, oq + j, none⟩) hbq).trans (HF3.out j u hj)) (hcs_one F) (by unfold maxLen; omega) (by omega) HB1.out.size ?_; intro v2 w2 hown hgr _ _; have O2 := hide hown; have HB2 := hide (below_grown HB1.out O1.out hgr HB1.out.size); clear hown hgr)
  have E2 := hide (show HeOk w ([(⟨wa, c.nw, cw, c.wk⟩ : He)] ++ F) by
    refine HeOk.app ⟨fun x hx => ?_, fun x hx => ?_, fun x hx => ?_⟩ HF2.out
    · simp at hx; subst hx; exact HS.out.wk
    · simp at hx; subst hx; exact HC.out.nw
    · simp at hx; subst hx; exact HC.out.wk)
  have A2 := hide (show allOk c ([(⟨wa, c.nw, cw, c.wk⟩ : He)] ++ F) ↔ ((∀ i, i < c.nw → hOk c (c.wk i)) ∧ (∀ j, j < c.nr → ∀ i, i < c.rn j → hOk c (c.rt j i)) ∧ ∀ j, j < 0 → (c.ob j).us = true → ∀ i, i < (c.ob j).ns → hOk c ((c.ob j).sl i)) by
    rw [allOk_app, HF4.out]
    constructor
    · intro h; exact ⟨h.1 ⟨wa, c.nw, cw, c.wk⟩ (by simp), h.2, fun j hj => absurd hj (by omega)⟩
    · intro h; exact ⟨fun x hx => by simp at hx; subst hx; exact h.1, h.2.1⟩)
  have c6 : w2.cell? ⟨w.heap.size, 6, none⟩ = some (.slice oa c.no cb) := (row_on HR.out HB2.out).cell (i := 6) (by decide)
  clear c5 c4 hW1
  go_wp2_with fail
  go_loopw [3, 20] (fun v i wr => ∃ (k : Nat) (E : List He), k ≤ c.no ∧ i = .int .i64 k ∧ Hid (wr.ownsRow W0.heap.size 25 1 v E.length (hcs E)) ∧ Hid (HeOk w E) ∧ Hid (allOk c E ↔ ((∀ i, i < c.nw → hOk c (c.wk i)) ∧ (∀ j, j < c.nr → ∀ i, i < c.rn j → hOk c (c.rt j i)) ∧ ∀ j, j < k → (c.ob j).us = true → ∀ i, i < (c.ob j).ns → hOk c ((c.ob j).sl i))) ∧ E.length ≤ 1 + c.nr + k ∧ Hid (Below W0.heap.size W0 wr)) (fun _ i _ => c.no - (intOf i).toNat)
  case atStart =>
    refine ⟨0, [(⟨wa, c.nw, cw, c.wk⟩ : He)] ++ F, Nat.zero_le _, rfl, ?_, E2.out, A2.out, by simp; omega, HB2.out⟩
    show World.ownsRow _ _ _ _ _ _ _
    rw [hcs_app]
    simpa [hF1, Nat.add_comm] using O2.out
  case round =>
    obtain ⟨k, E, hk, rfl, HO, HE, HA, hEl, HW⟩ := hrel
    have HBr := hide (HB.out.trans (HW.out.mono HB.out.size))
    obtain ⟨av, cv, rfl⟩ := own_slice HO.out
    clear c6
    by_cases hlt : k < c.no
    · have hkn : (k : Int) < (c.no : Int) := by omega
      obtain ⟨b, off, ai, ci, hoa, hbl, hoc0, hse⟩ := HS.out.ob k hlt
      simp only at hoa
      subst hoa
      have hoc := fun (q : Nat) (hq : q < 9) => (HBr.out.cell (p := ⟨b, off + k * 9 + q, none⟩) hbl).trans (hoc0 q hq)
      clear hoc0
      have hsw := HC.out.sl k hlt
      have hns := HC.out.ns k hlt
      cases hobx : c.ob k with
      | mk us li fi ta ag ge lk nx ns sl =>
      have HOB := hide hobx
      simp only [hobx] at hoc hse hsw hns
      simp only [Ob.cell] at hoc
      have o0 : wr.cell? ⟨b, off + k * 9, none⟩ = some (.bool us) := by simpa using hoc 0 (by decide)
      have o1 : wr.cell? ⟨b, off + k * 9 + 1, none⟩ = some (.bool li) := by simpa using hoc 1 (by decide)
      have o2 : wr.cell? ⟨b, off + k * 9 + 2, none⟩ = some (.bool fi) := by simpa using hoc 2 (by decide)
      have o3 : wr.cell? ⟨b, off + k * 9 + 3, none⟩ = some (.bool ta) := by simpa using hoc 3 (by decide)
      have o4 : wr.cell? ⟨b, off + k * 9 + 4, none⟩ = some (.int .i64 ag) := by simpa using hoc 4 (by decide)
      have o5 : wr.cell? ⟨b, off + k * 9 + 5, none⟩ = some (.int .u64 ge) := by simpa using hoc 5 (by decide)
      have o6 : wr.cell? ⟨b, off + k * 9 + 6, none⟩ = some (.int .u64 lk) := by simpa using hoc 6 (by decide)
      have o7 : wr.cell? ⟨b, off + k * 9 + 7, none⟩ = some (.int .u64 nx) := by simpa using hoc 7 (by decide)
      have o8 : wr.cell? ⟨b, off + k * 9 + 8, none⟩ = some (.slice ai ns ci) := by simpa using hoc 8 (by decide)

      have HSE := hide hse
      have HSW := hide hsw
      clear hobx hoc hse hsw
      go_upto_region 6 with (fail)
      obtain ⟨W4, hW4, B4, R4⟩ := obox wr us li fi ta ag ge lk nx ai ns ci
      have HB4 := hide (HW.out.trans (B4.mono HW.out.size))
      have p0 : W4.cell? ⟨wr.heap.size, 0, none⟩ = some (.bool us) := R4.cell (i := 0) (by decide)
      have p1 : W4.cell? ⟨wr.heap.size, 1, none⟩ = some (.bool li) := R4.cell (i := 1) (by decide)
      have p2 : W4.cell? ⟨wr.heap.size, 2, none⟩ = some (.bool fi) := R4.cell (i := 2) (by decide)
      have p3 : W4.cell? ⟨wr.heap.size, 3, none⟩ = some (.bool ta) := R4.cell (i := 3) (by decide)
      have p4 : W4.cell? ⟨wr.heap.size, 4, none⟩ = some (.int .i64 ag) := R4.cell (i := 4) (by decide)
      have p5 : W4.cell? ⟨wr.heap.size, 5, none⟩ = some (.int .u64 ge) := R4.cell (i := 5) (by decide)
      have p6 : W4.cell? ⟨wr.heap.size, 6, none⟩ = some (.int .u64 lk) := R4.cell (i := 6) (by decide)
      have p7 : W4.cell? ⟨wr.heap.size, 7, none⟩ = some (.int .u64 nx) := R4.cell (i := 7) (by decide)
      have p8 : W4.cell? ⟨wr.heap.size, 8, none⟩ = some (.slice ai ns ci) := R4.cell (i := 8) (by decide)
      have O4 := hide (owns_on HO.out B4)
      simp only [hW4]
      clear hW4 o0 o1 o2 o3 o4 o5 o6 o7 o8 R4 B4
      cases us
      · have A4 := hide (show allOk c E ↔ ((∀ i, i < c.nw → hOk c (c.wk i)) ∧ (∀ j, j < c.nr → ∀ i, i < c.rn j → hOk c (c.rt j i)) ∧ ∀ j, j < k + 1 → (c.ob j).us = true → ∀ i, i < (c.ob j).ns → hOk c ((c.ob j).sl i)) by
          rw [HA.out]
          constructor
          · intro h; exact ⟨h.1, h.2.1, fun j hj hu => by (by_cases e : j < k); exact h.2.2 j e hu; (cases (show j = k by omega)); rw [HOB.out] at hu; cases hu⟩
          · intro h; exact ⟨h.1, h.2.1, fun j hj => h.2.2 j (by omega)⟩)
        go_wp2_with fail
        go_roundw
        case rel => exact ⟨k + 1, E, by omega, by go_num, O4.out, HE.out, A4.out, by omega, HB4.out⟩
        case measure => simp [intOf]; omega
      · have A4 := hide (show allOk c (E ++ [(⟨ai, ns, ci, sl⟩ : He)]) ↔ ((∀ i, i < c.nw → hOk c (c.wk i)) ∧ (∀ j, j < c.nr → ∀ i, i < c.rn j → hOk c (c.rt j i)) ∧ ∀ j, j < k + 1 → (c.ob j).us = true → ∀ i, i < (c.ob j).ns → hOk c ((c.ob j).sl i)) by
          rw [allOk_app, HA.out]
          constructor
          · intro h
            refine ⟨h.1.1, h.1.2.1, fun j hj hu => ?_⟩
            by_cases e : j < k
            · exact h.1.2.2 j e hu
            · cases (show j = k by omega)
              rw [HOB.out]
              exact h.2 ⟨ai, ns, ci, sl⟩ (by simp)
          · intro h
            refine ⟨⟨h.1, h.2.1, fun j hj => h.2.2 j (by omega)⟩, fun x hx => ?_⟩
            simp at hx
            subst hx
            have := h.2.2 k (by omega)
            rw [HOB.out] at this
            exact this rfl)
        go_wp2_with (at_builtin; refine wpList_append_own_at _ rfl (.tmp 26) (.tmp 29) 26 rfl W0.heap.size 25 iS (.slice none 0 0) 1 24 Tryz.underlying26 hiS hzS hsS hyS rfl (by decide) (.slice av E.length cv) E.length (hcs E) rfl (O4.out.alloc _) ⟨W4.heap.size, 0, none⟩ 1 1 (hcs [(⟨ai, ns, ci, sl⟩ : He)]) rfl rfl (cell_one_new W4 (.slice ai ns ci) 25) (hcs_one _) (by unfold maxLen; omega) (by omega) (by have := HB4.out.size; simp; omega) ?_; intro v5 w5 hown hgr _ _; have O5 := hide hown; have HG5 := hide hgr; clear hown hgr)
        have HB5 := hide (below_grown (HB4.out.alloc HB4.out.size _) (O4.out.alloc _) HG5.out (by have := HB4.out.size; simp; omega))
        go_roundw
        case rel =>
          have hbo := HB.out.trans (HB5.out.mono HB.out.size)
          refine ⟨k + 1, E ++ [(⟨ai, ns, ci, sl⟩ : He)], by omega, by go_num, ?_, ?_, A4.out, by simp; omega, HB5.out⟩
          · show World.ownsRow _ _ _ _ _ _ _
            rw [hcs_app]
            simpa using O5.out
          · refine HeOk.app HE.out ⟨fun x hx => ?_, fun x hx => ?_, fun x hx => ?_⟩
            · simp at hx; subst hx; exact HSE.out
            · simp at hx; subst hx; exact hns
            · simp at hx; subst hx; exact HSW.out
        case measure => simp [intOf]; omega
    · have hkn : ¬ (k : Int) < (c.no : Int) := by omega
      have ALL := hide (show allOk c E ↔ HaOk c by
        rw [HA.out]
        constructor
        · intro h; exact ⟨h.1, h.2.1, fun j hj => h.2.2 j (by omega)⟩
        · intro h; exact ⟨h.wk, h.rt, fun j hj => h.ob j (by omega)⟩)
      obtain ⟨n, hn⟩ : ∃ n, E.length = n := ⟨_, rfl⟩
      have HN := hide hn
      rw [hn] at HO hEl ⊢
      have hn2 : n ≤ 200000 := by omega
      clear hn HA
      go_wp2_with fail
      obtain ⟨V0, hV0⟩ : ∃ V, V = wr := ⟨_, rfl⟩
      subst hV0
      go_loopw [34] (fun i w2 => ∃ t : Nat, t ≤ n ∧ i = .int .i64 t ∧ Hid (allOk c (E.take t)) ∧ Hid (Below V0.heap.size V0 w2)) (fun i _ => n - (intOf i).toNat)
      case atStart => exact ⟨0, Nat.zero_le _, rfl, show allOk _ _ by simp [allOk], Below.refl _ _⟩
      case round =>
        obtain ⟨t, ht, rfl, HT, HW2⟩ := hrel
        have HBr2 := hide (HBr.out.trans (HW2.out.mono HBr.out.size))
        by_cases hlt2 : t < n
        · have hkn2 : (t : Int) < (n : Int) := by omega
          obtain ⟨x, hx⟩ : ∃ x, E[t]? = some x := ⟨E[t]'(by rw [HN.out]; exact hlt2), List.getElem?_eq_getElem _⟩
          have hxm := List.mem_of_getElem? hx
          have hsx := HE.out.see x hxm
          have hlx := HE.out.len x hxm
          have hwx := HE.out.word x hxm
          have hcx : (hcs E)[t]? = some x.v := by simp [hcs, hx]
          obtain ⟨bb, hbb, _, _, hcc, _⟩ := owns_cell (owns_on HO.out HW2.out) hcx
          subst hbb
          obtain ⟨ao', n', cap', g'⟩ := x
          simp only [He.v] at hcc
          simp only at hsx hlx hwx
          have HX := hide hx
          have HSX := hide hsx
          have HWX := hide hwx
          clear hx hxm hsx hwx hcx
          go_wp2_with fail
          go_loopw [40] (fun i w3 => ∃ q : Nat, q ≤ n' ∧ i = .int .i64 q ∧ Hid (∀ p, p < q → hOk c (g' p)) ∧ Hid (Below W0.heap.size W0 w3) ∧ Hid (Below V0.heap.size V0 w3)) (fun i _ => n' - (intOf i).toNat)
          case atStart => exact ⟨0, Nat.zero_le _, rfl, fun p hp => absurd hp (by omega), HW.out.trans (HW2.out.mono HW.out.size), HW2.out⟩
          case round =>
            obtain ⟨q, hq, rfl, HQ, HW3, HW4⟩ := hrel
            have HBr3 := hide (HB.out.trans (HW3.out.mono HB.out.size))
            by_cases hlt3 : q < n'
            · have hkn3 : (q : Int) < (n' : Int) := by omega
              obtain ⟨b3, off3, hao, hb3, hc3⟩ := sees_on HSX.out HBr3.out q hlt3
              subst hao
              have hw3 := HWX.out q hlt3
              have RB := row_on HR.out HW3.out
              have x0 : wr.cell? ⟨w.heap.size, 0, none⟩ = some (.int .i64 c.ph) := RB.cell (i := 0) (by decide)
              have x1 : wr.cell? ⟨w.heap.size, 1, none⟩ = some (.int .i64 c.co) := RB.cell (i := 1) (by decide)
              have x2 : wr.cell? ⟨w.heap.size, 2, none⟩ = some (.int .u64 c.ro) := RB.cell (i := 2) (by decide)
              have x3 : wr.cell? ⟨w.heap.size, 3, none⟩ = some (.slice aa c.na ca) := RB.cell (i := 3) (by decide)
              have x4 : wr.cell? ⟨w.heap.size, 4, none⟩ = some (.slice (some ⟨bq, oq, none⟩) c.nr cr) := RB.cell (i := 4) (by decide)
              have x5 : wr.cell? ⟨w.heap.size, 5, none⟩ = some (.slice wa c.nw cw) := RB.cell (i := 5) (by decide)
              have x6 : wr.cell? ⟨w.heap.size, 6, none⟩ = some (.slice oa c.no cb) := RB.cell (i := 6) (by decide)
              have x7 : wr.cell? ⟨w.heap.size, 7, none⟩ = some (.slice fa c.fr.length cf) := RB.cell (i := 7) (by decide)
              have x8 : wr.cell? ⟨w.heap.size, 8, none⟩ = some (.slice ga c.gr.length cg) := RB.cell (i := 8) (by decide)
              have x9 : wr.cell? ⟨w.heap.size, 9, none⟩ = some (.slice qa c.qu.length cq) := RB.cell (i := 9) (by decide)
              have x10 : wr.cell? ⟨w.heap.size, 10, none⟩ = some (.int .u64 (c.cn 0)) := RB.cell (i := 10) (by decide)
              have x11 : wr.cell? ⟨w.heap.size, 11, none⟩ = some (.int .u64 (c.cn 1)) := RB.cell (i := 11) (by decide)
              have x12 : wr.cell? ⟨w.heap.size, 12, none⟩ = some (.int .u64 (c.cn 2)) := RB.cell (i := 12) (by decide)
              have x13 : wr.cell? ⟨w.heap.size, 13, none⟩ = some (.int .u64 (c.cn 3)) := RB.cell (i := 13) (by decide)
              obtain ⟨u, hu⟩ : ∃ u, g' q = u := ⟨_, rfl⟩
              rw [hu] at hc3 hw3
              have HU := hide hu
              clear hu RB
              by_cases hu0 : u = 0
              · subst hu0
                have OKK := hide (show hOk c (g' q) by rw [HU.out]; intro h; exact absurd rfl h)
                go_wp2_with fail
                go_roundw
                case rel => exact ⟨q + 1, by omega, by go_num, fun p hp => by (by_cases e : p < q); exact HQ.out p e; (cases (show p = q by omega)); exact OKK.out, HW3.out, HW4.out⟩
                case measure => simp [intOf]; omega
              · have hu1 : (u != 0) = true := by simp [hu0]
                have GD := hide (good_ok (w := wr) (a := ⟨aa, ca, some ⟨bq, oq, none⟩, cr, wa, cw, oa, cb, fa, cf, ga, cg, qa, cq⟩) (HS.out.below HBr3.out) HC.out hw3.1 hw3.2)
                simp only at GD
                by_cases hgd : good c u
                · have GD2 := hide (GD.out.mono (R' := fun e w' => (∃ v : Int, e = .returned (.int .i64 v) ∧ Hid ((v == 0) = false)) ∧ Below wr.heap.size wr w') (by rintro e w' ⟨⟨v, he, hv⟩, hb⟩; rcases hv.out with ⟨_, h2⟩ | ⟨h1, _⟩; exact ⟨⟨v, he, h2⟩, hb⟩; exact absurd hgd h1))
                  have OKK := hide (show hOk c (g' q) by rw [HU.out]; intro _; exact hgd)
                  clear GD hgd hu0
                  go_wp2_with (go_at_call 93; refine GD2.out.mono ?_; rintro e w5 ⟨⟨v, rfl, hv⟩, hb5⟩; have hv0 : (v == 0) = false := hv.out; have HB5 := hide hb5; clear hb5 hv)
                  go_roundw
                  case rel => exact ⟨q + 1, by omega, by go_num, fun p hp => by (by_cases e : p < q); exact HQ.out p e; (cases (show p = q by omega)); exact OKK.out, HW3.out.trans (HB5.out.mono HW3.out.size), HW4.out.trans (HB5.out.mono HW4.out.size)⟩
                  case measure => simp [intOf]; omega
                · have GD2 := hide (GD.out.mono (R' := fun e w' => e = .returned (.int .i64 0) ∧ Below wr.heap.size wr w') (by rintro e w' ⟨⟨v, he, hv⟩, hb⟩; rcases hv.out with ⟨h1, _⟩ | ⟨_, h2⟩; exact absurd h1 hgd; subst h2; exact ⟨he, hb⟩))
                  have NO := hide (show ¬ HaOk c from fun h => hgd (by
                    have h1 := ALL.out.2 h _ (List.mem_of_getElem? HX.out) q hlt3
                    simp only at h1
                    rw [HU.out] at h1
                    exact h1 hu0))
                  clear GD hgd hu0
                  go_wp2_with (go_at_call 93; refine GD2.out.mono ?_; rintro e w5 ⟨rfl, hb5⟩; have HB5 := hide hb5; clear hb5)
                  go_ret
                  exact ⟨Tells.no NO.out, HBr3.out.trans (HB5.out.mono HBr3.out.size)⟩
            · have hkn3 : ¬ (q : Int) < (n' : Int) := by omega
              go_wp2_with fail
              go_roundw
              case rel =>
                refine ⟨t + 1, by omega, by go_num, ?_, HW4.out⟩
                intro y hy
                rw [List.take_add_one, HX.out] at hy
                simp at hy
                rcases hy with hy | hy
                · exact HT.out y hy
                · rw [hy]; intro p hp; exact HQ.out p (by simp only at hp; omega)
              case measure => simp [intOf]; omega
        · have hkn2 : ¬ (t : Int) < (n : Int) := by omega
          have YES := hide (show HaOk c from ALL.out.1 (by have := HT.out; rw [List.take_of_length_le (by rw [HN.out]; omega)] at this; exact this))
          go_wp2_with fail
          go_ret
          exact ⟨Tells.yes YES.out, HBr2.out⟩
end Vw
end Go.Proofs.YtecjegjnnahddaaGreat

/-
  View: two views held against each other by the document
-/
namespace Go.Proofs.YtecjegjnnahddaaGreat
open Go.RowKit
set_option linter.unusedVariables false
set_option linter.unusedSimpArgs false
set_option linter.unnecessarySimpa false
set_option maxRecDepth 20000
namespace Vw
open Shape
set_option maxHeartbeats 800000 in
theorem same13 {w : World} {B B' : Nat} {ao ao' : Option Addr} {n cap cap' : Nat} {f f' : Nat → Int} (h : Sees w B ao n f) (h' : Sees w B' ao' n f') (e : ∀ i, i < n → f i = f' i) (hn : n ≤ 9223372036854775807) :
    Calls Tryz.prog 42 #[.slice ao n cap, .slice ao' n cap'] w fun e w' => e = .returned (.bool true) ∧ ∃ m, w' = w.drewN m := by
  have H := hide h
  have H' := hide h'
  clear h h'
  go_enter Tryz.func42, Tryz.ntmps42
  go_wp2_with fail
  go_loopw [5] (fun i wr => ∃ k m : Nat, k ≤ n ∧ i = .int .i64 k ∧ wr = w.drewN m) (fun i _ => n - (intOf i).toNat)
  case atStart => exact ⟨0, 0, Nat.zero_le _, rfl, rfl⟩
  case round =>
    obtain ⟨k, m, hk, rfl, rfl⟩ := hrel
    by_cases hlt : k < n
    · obtain ⟨b, off, rfl, hbl, hcc⟩ := H.out k hlt
      obtain ⟨b', off', rfl, hbl', hcc'⟩ := H'.out k hlt
      have he := e k hlt
      have hkn : (k : Int) < (n : Int) := by omega
      go_wp2
      go_quiet (fail)
      go_wp2
      go_roundw
      case rel => exact ⟨k + 1, _, by omega, by go_num, rfl⟩
      case measure => simp [intOf]; omega
    · go_wp2
      go_ret
      exact ⟨rfl, _, rfl⟩
set_option maxHeartbeats 800000 in
theorem sameI {w : World} {ao ao' : Option Addr} {l : List Int} {n cap cap' : Nat} (h : SeesN w ao l) (h' : SeesN w ao' l) (hl : l.length = n) (hn : n ≤ 9223372036854775807) :
    Calls Tryz.prog 44 #[.slice ao n cap, .slice ao' n cap'] w fun e w' => e = .returned (.bool true) ∧ ∃ m, w' = w.drewN m := by
  have H := hide h
  have H' := hide h'
  clear h h'
  go_enter Tryz.func44, Tryz.ntmps44
  go_wp2_with fail
  go_loopw [5] (fun i wr => ∃ k m : Nat, k ≤ n ∧ i = .int .i64 k ∧ wr = w.drewN m) (fun i _ => n - (intOf i).toNat)
  case atStart => exact ⟨0, 0, Nat.zero_le _, rfl, rfl⟩
  case round =>
    obtain ⟨k, m, hk, rfl, rfl⟩ := hrel
    by_cases hlt : k < n
    · obtain ⟨x, hx⟩ : ∃ x, l[k]? = some x := ⟨l[k]'(by omega), List.getElem?_eq_getElem _⟩
      obtain ⟨b, off, rfl, hbl, hcc⟩ := H.out k x hx
      obtain ⟨b', off', rfl, hbl', hcc'⟩ := H'.out k x hx
      clear hx
      have hkn : (k : Int) < (n : Int) := by omega
      go_wp2
      go_quiet (fail)
      go_wp2
      go_roundw
      case rel => exact ⟨k + 1, _, by omega, by go_num, rfl⟩
      case measure => simp [intOf]; omega
    · go_wp2
      go_ret
      exact ⟨rfl, _, rfl⟩

set_option maxHeartbeats 2000000 in
theorem sameObj {us li fi ta : Bool} {ag ge lk nx : Int} {ns ci cj : Nat} {ai aj : Option Addr} {g : Nat → Int} {w : World} (h : Sees w w.heap.size ai ns g) (h' : Sees w w.heap.size aj ns g) (hn : ns ≤ 70000) :
    Calls Tryz.prog 43 #[.agg #[.bool us, .bool li, .bool fi, .bool ta, .int .i64 ag, .int .u64 ge, .int .u64 lk, .int .u64 nx, .slice ai ns ci], .agg #[.bool us, .bool li, .bool fi, .bool ta, .int .i64 ag, .int .u64 ge, .int .u64 lk, .int .u64 nx, .slice aj ns cj]] w fun e w' => e = .returned (.bool true) ∧ Below w.heap.size w w' := by
  obtain ⟨W0, hW0, B0, R0⟩ := obox w us li fi ta ag ge lk nx ai ns ci
  obtain ⟨W1, hW1, B1, R1⟩ := obox W0 us li fi ta ag ge lk nx aj ns cj
  have R01 := row_on R0 B1
  have HB := hide (B0.trans (B1.mono B0.size))
  have SW := hide (same13 (cap := ci) (cap' := cj) (sees_on h HB.out) (sees_on h' HB.out) (fun _ _ => rfl) (by omega))
  have l0 : w.heap.size < W0.heap.size := R0.lt
  have x0 : W1.cell? ⟨w.heap.size, 0, none⟩ = some (.bool us) := R01.cell (i := 0) (by decide)
  have x1 : W1.cell? ⟨w.heap.size, 1, none⟩ = some (.bool li) := R01.cell (i := 1) (by decide)
  have x2 : W1.cell? ⟨w.heap.size, 2, none⟩ = some (.bool fi) := R01.cell (i := 2) (by decide)
  have x3 : W1.cell? ⟨w.heap.size, 3, none⟩ = some (.bool ta) := R01.cell (i := 3) (by decide)
  have x4 : W1.cell? ⟨w.heap.size, 4, none⟩ = some (.int .i64 ag) := R01.cell (i := 4) (by decide)
  have x5 : W1.cell? ⟨w.heap.size, 5, none⟩ = some (.int .u64 ge) := R01.cell (i := 5) (by decide)
  have x6 : W1.cell? ⟨w.heap.size, 6, none⟩ = some (.int .u64 lk) := R01.cell (i := 6) (by decide)
  have x7 : W1.cell? ⟨w.heap.size, 7, none⟩ = some (.int .u64 nx) := R01.cell (i := 7) (by decide)
  have x8 : W1.cell? ⟨w.heap.size, 8, none⟩ = some (.slice ai ns ci) := R01.cell (i := 8) (by decide)
  have y0 : W1.cell? ⟨W0.heap.size, 0, none⟩ = some (.bool us) := R1.cell (i := 0) (by decide)
  have y1 : W1.cell? ⟨W0.heap.size, 1, none⟩ = some (.bool li) := R1.cell (i := 1) (by decide)
  have y2 : W1.cell? ⟨W0.heap.size, 2, none⟩ = some (.bool fi) := R1.cell (i := 2) (by decide)
  have y3 : W1.cell? ⟨W0.heap.size, 3, none⟩ = some (.bool ta) := R1.cell (i := 3) (by decide)
  have y4 : W1.cell? ⟨W0.heap.size, 4, none⟩ = some (.int .i64 ag) := R1.cell (i := 4) (by decide)
  have y5 : W1.cell? ⟨W0.heap.size, 5, none⟩ = some (.int .u64 ge) := R1.cell (i := 5) (by decide)
  have y6 : W1.cell? ⟨W0.heap.size, 6, none⟩ = some (.int .u64 lk) := R1.cell (i := 6) (by decide)
  have y7 : W1.cell? ⟨W0.heap.size, 7, none⟩ = some (.int .u64 nx) := R1.cell (i := 7) (by decide)
  have y8 : W1.cell? ⟨W0.heap.size, 8, none⟩ = some (.slice aj ns cj) := R1.cell (i := 8) (by decide)
  clear R0 R1 R01 B0 B1 h h'
  go_enter Tryz.func43, Tryz.ntmps43
  go_wp2_with (go_at_call 42; refine SW.out.mono ?_; rintro e w1 ⟨rfl, m1, rfl⟩)
  go_ret
  exact ⟨rfl, below_drewN HB.out _⟩
end Vw
end Go.Proofs.YtecjegjnnahddaaGreat
