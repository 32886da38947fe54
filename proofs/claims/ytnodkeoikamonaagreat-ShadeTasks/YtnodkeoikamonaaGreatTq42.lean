/-
  Lemmas: ShadeRH, ShadeRK, ShadeT.
-/
import Derived.Test.YtnodkeoikamonaaGreatTq41
import Derived.Test.YtnodkeoikamonaaGreatTq37
import Derived.Test.YtnodkeoikamonaaGreatTq38
import Derived.Test.YtnodkeoikamonaaGreatTq39
import Derived.Test.YtnodkeoikamonaaGreatTq40
import Derived.Test.YtnodkeoikamonaaGreatTq20
import Derived.Test.YtnodkeoikamonaaGreatTq35
import Derived.Test.YtnodkeoikamonaaGreatTq21
/-
  Shade's reference: Step is that of the job's kind.
-/
namespace Go.Proofs.YtnodkeoikamonaaGreat
open Go.RowKit
set_option linter.unusedVariables false
set_option linter.unusedSimpArgs false
set_option linter.unnecessarySimpa false
set_option maxRecDepth 20000
namespace Shd
set_option maxHeartbeats 8000000 in
theorem rstep2 {w : World} {g n cap : Nat} {f f' : Nat → Int} {x : Stp} {l0 l1 : List Value} {en : Bool} (hl : IsTk l0) (hl1 : IsTk l1) (g7 : l0[7]? = some (.int .i64 2)) (hr : IsRow w g n cap f)
    (hc : ∀ w1 : World, IsRow w1 g n cap f → Calls Tryz.prog 63 #[.agg l0.toArray, .slice (some ⟨g, 0, none⟩) n cap] w1 fun e w' => e = .returned (.tuple #[.agg l1.toArray, x.val, .bool en]) ∧ IsRow w' g n cap f' ∧ w1.grownBy w' (some g)) :
    Calls Tryz.prog 35 #[.agg l0.toArray, .slice (some ⟨g, 0, none⟩) n cap] w fun e w' => e = .returned (.tuple #[.agg l1.toArray, x.val, .bool en]) ∧ IsRow w' g n cap f' ∧ w.grownBy w' (some g) := by
  have lg := hr.lt
  have hll : l0.length = 28 := hl.1
  obtain ⟨W3, hW3⟩ : ∃ W3, ((w.alloc (.cells l0.toArray 85)).alloc (.cells tk0.toArray 85)).alloc (.cells [Value.int .i64 0, .int .i64 0, .int .i64 0, .int .u64 0, .int .u64 0, .bool false].toArray 71) = W3 := ⟨_, rfl⟩
  have sz3 : W3.heap.size = w.heap.size + 3 := by rw [← hW3]; simp
  have R0 : W3.rowIs w.heap.size 85 28 (lrow l0) := by rw [← hW3]; exact ((rowL_alloc w l0 _ hll).alloc _).alloc _
  have R1 : W3.rowIs (w.heap.size + 1) 85 28 (lrow tk0) := by
    rw [← hW3]
    have := (rowL_alloc (w.alloc (.cells l0.toArray 85)) tk0 85 (n := 28) rfl).alloc (.cells [Value.int .i64 0, .int .i64 0, .int .i64 0, .int .u64 0, .int .u64 0, .bool false].toArray 71)
    rwa [World.size_alloc] at this
  have R2 : W3.rowIs (w.heap.size + 2) 71 6 (lrow [Value.int .i64 0, .int .i64 0, .int .i64 0, .int .u64 0, .int .u64 0, .bool false]) := by
    rw [← hW3]
    have := rowL_alloc ((w.alloc (.cells l0.toArray 85)).alloc (.cells tk0.toArray 85)) [Value.int .i64 0, .int .i64 0, .int .i64 0, .int .u64 0, .int .u64 0, .bool false] 71 (n := 6) rfl
    rwa [World.size_alloc, World.size_alloc] at this
  have G3 := hide (show w.grownBy W3 (some g) from by rw [← hW3]; exact grown_alloc (grown_alloc (grown_alloc (grown_refl _ _) _) _) _)
  have HR3 := hide (show IsRow W3 g n cap f from hr.grown (grown_none (by rw [← hW3]; exact grown_alloc (grown_alloc (grown_alloc (grown_refl _ _) _) _) _) none) (by simp))
  have c7 : W3.cell? ⟨w.heap.size, 7, none⟩ = some (.int .i64 2) := by rw [R0.cell (i := 7) (by omega), lrow_of g7]
  obtain ⟨dT, hdT1, hdT2⟩ := row79
  have DT1 := hide hdT1
  have DT2 := hide hdT2
  obtain ⟨dS, hdS1, hdS2⟩ := row46
  have HD := hide (And.intro hdS1 hdS2)
  have RR := hide (rowIs.range R0 hll)
  have HR1 := hide R1
  have HR2 := hide R2
  have HC := hide (hc W3 HR3.out)
  have HL := hide hll
  have HL1 := hide hl1
  clear hdT1 hdT2 hdS1 hdS2 hc hr R0 R1 R2 hl hl1 g7
  simp only [tk0] at hW3
  go_enter Tryz.func35, Tryz.ntmps35
  go_wp2_with (refine wpList_load_mid (by rfl) 85 (.tmp 2) (by rfl) w.heap.size 0 (by rfl) l0 dT (by exact RR.out) (by exact DT1.out) (by exact DT2.out) (by rw [HL.out]; exact size79) ?_)
  refine HC.out.mono ?_
  rintro e w1 ⟨rfl, hr1, hg1⟩
  have sz1 := hg1.size
  have T1 := HR1.out.of_block (hg1.block (w.heap.size + 1) (by omega) (by simp; omega))
  have HT1 := hide (rowIs.there T1 (o := 0) (m := 28) (by omega))
  have RS := hide (HR2.out.of_block (hg1.block (w.heap.size + 2) (by omega) (by simp; omega)))
  have HRW := hide hr1
  have HGW := hide (grown_trans G3.out hg1)
  have l2 : w.heap.size + 2 < w1.heap.size := by omega
  clear hr1 hg1 T1 HC c7 hW3 HR1 HR2 RR
  obtain ⟨W5, hW5⟩ : ∃ W5, w1.setCells (w.heap.size + 1) 0 l1 = W5 := ⟨_, rfl⟩
  have tt5 : Touch w1 W5 (fun k => k = w.heap.size + 1) := by rw [← hW5]; exact touch_setCells _ _ _ _
  have r5 := hide (show W5.rangeAt (w.heap.size + 1) 0 l1 from by rw [← hW5]; exact World.rangeAt_setCells_same w1 (w.heap.size + 1) 0 l1 (by rw [HL1.out.1]; exact HT1.out))
  have RS5 := hide (RS.out.of_block (tt5.block _ (by omega) (by omega)))
  have HR5 := hide (HRW.out.block (tt5.block g HRW.out.lt (by omega)))
  have HG5 := hide (show w.grownBy W5 (some g) from by
    have := (Touch.of_grown HGW.out).trans' tt5 (S := fun k => some k = some g) (fun k hk h => absurd hk (by omega))
    exact ⟨this.os, this.tape, this.output, this.size, fun k hk hn => this.block k hk (by simpa using hn)⟩)
  have l5 : w.heap.size + 2 < W5.heap.size := by have := tt5.size; omega
  have z0 : W5.cell? ⟨w.heap.size + 2, 0, none⟩ = some (.int .i64 0) := by rw [RS5.out.cell (i := 0) (by omega)]; rfl
  have zf0 := RS5.out.frozen 0
  have z1 : W5.cell? ⟨w.heap.size + 2, 1, none⟩ = some (.int .i64 0) := by rw [RS5.out.cell (i := 1) (by omega)]; rfl
  have zf1 := RS5.out.frozen 1
  have z2 : W5.cell? ⟨w.heap.size + 2, 2, none⟩ = some (.int .i64 0) := by rw [RS5.out.cell (i := 2) (by omega)]; rfl
  have zf2 := RS5.out.frozen 2
  have z3 : W5.cell? ⟨w.heap.size + 2, 3, none⟩ = some (.int .u64 0) := by rw [RS5.out.cell (i := 3) (by omega)]; rfl
  have zf3 := RS5.out.frozen 3
  have z4 : W5.cell? ⟨w.heap.size + 2, 4, none⟩ = some (.int .u64 0) := by rw [RS5.out.cell (i := 4) (by omega)]; rfl
  have zf4 := RS5.out.frozen 4
  have z5 : W5.cell? ⟨w.heap.size + 2, 5, none⟩ = some (.bool false) := by rw [RS5.out.cell (i := 5) (by omega)]; rfl
  have zf5 := RS5.out.frozen 5
  clear tt5 RS HGW
  simp only [Stp.val]
  go_wp2_with (refine wpList_store_mid (by rfl) 85 (.tmp 4) (.tmp 19) (by rfl) (w.heap.size + 1) 0 l1.toArray (by rfl) (by rfl) (by simpa [HL1.out.1] using HT1.out) (by simpa [HL1.out.1] using size79) (by exact all_oneCell_toArray HL1.out.2) ?_)
  obtain ⟨W6, hW6⟩ : ∃ W6, ((((((W5.setCell ⟨w.heap.size + 2, 0, none⟩ (.int .i64 x.hand)).setCell ⟨w.heap.size + 2, 1, none⟩ (.int .i64 x.act)).setCell ⟨w.heap.size + 2, 2, none⟩ (.int .i64 x.at_)).setCell ⟨w.heap.size + 2, 3, none⟩ (.int .u64 x.had)).setCell ⟨w.heap.size + 2, 4, none⟩ (.int .u64 x.put)).setCell ⟨w.heap.size + 2, 5, none⟩ (.bool x.ok)) = W6 := ⟨_, rfl⟩
  have tt6 : Touch W5 W6 (fun k => k = w.heap.size + 2) := by rw [← hW6]; exact (Touch.setCell (S := fun k => k = w.heap.size + 2) (Touch.setCell (S := fun k => k = w.heap.size + 2) (Touch.setCell (S := fun k => k = w.heap.size + 2) (Touch.setCell (S := fun k => k = w.heap.size + 2) (Touch.setCell (S := fun k => k = w.heap.size + 2) (Touch.setCell (S := fun k => k = w.heap.size + 2) (Touch.refl W5 _) ⟨w.heap.size + 2, 0, none⟩ (.inl rfl) _) ⟨w.heap.size + 2, 1, none⟩ (.inl rfl) _) ⟨w.heap.size + 2, 2, none⟩ (.inl rfl) _) ⟨w.heap.size + 2, 3, none⟩ (.inl rfl) _) ⟨w.heap.size + 2, 4, none⟩ (.inl rfl) _) ⟨w.heap.size + 2, 5, none⟩ (.inl rfl) _)
  have rq : W6.rangeAt (w.heap.size + 2) 0 [Value.int .i64 x.hand, .int .i64 x.act, .int .i64 x.at_, .int .u64 x.had, .int .u64 x.put, .bool x.ok] := by rw [← hW6]; exact rowIs.range (rowIs.setL (rowIs.setL (rowIs.setL (rowIs.setL (rowIs.setL (rowIs.setL RS5.out (i := 0) (by simp) (.int .i64 x.hand)) (i := 1) (by simp) (.int .i64 x.act)) (i := 2) (by simp) (.int .i64 x.at_)) (i := 3) (by simp) (.int .u64 x.had)) (i := 4) (by simp) (.int .u64 x.put)) (i := 5) (by simp) (.bool x.ok)) (by simp)
  have r6 := rangeAt_block r5.out (tt6.block (w.heap.size + 1) (by omega) (by omega))
  have hT := run_loadVar_mid (P := Tryz.prog) W6 (w.heap.size + 1) 0 _ l1 dT r6 DT1.out DT2.out (by rw [HL1.out.1]; exact size79)
  have hS := run_loadVar_mid (P := Tryz.prog) W6 (w.heap.size + 2) 0 _ _ dS rq HD.out.1 HD.out.2 size46
  try simp only [hW5, hW6]
  refine bodyPost_ret (v := .tuple #[.agg l1.toArray, x.val, .bool en]) ?res rfl ⟨rfl, HR5.out.block (tt6.block g HR5.out.lt (by omega)), ?gro⟩
  case res => exact results_cct (Q := Tryz.prog) (fn := Tryz.f35) (t := 4) (t' := 5) (t'' := 6) (W := W6) (by rfl) (by rfl) hT (by rfl) hS
  case gro =>
    have := (Touch.of_grown HG5.out).trans' tt6 (S := fun k => some k = some g) (fun k hk h => absurd hk (by omega))
    exact ⟨this.os, this.tape, this.output, this.size, fun k hk hn => this.block k hk (by simpa using hn)⟩
end Shd
end Go.Proofs.YtnodkeoikamonaaGreat
/-
  Shade's reference: its tasks are those of the kind.
-/
namespace Go.Proofs.YtnodkeoikamonaaGreat
open Go.RowKit
set_option linter.unusedVariables false
set_option linter.unusedSimpArgs false
set_option maxRecDepth 20000
namespace Shd
def rTk (sh : Shp) (s : ShS) (cs : List Value) : Prop :=
  if s.j.kind = 2 then ∃ c r0 r1, cs = tk sh s.hand ⟨2, s.j.a, s.j.b, c, s.j.h⟩ s.st ⟨r0, r1, 0, 0, 0, 0, 0, 0⟩ ⟨false, 0⟩ ∧ (0 ≤ r0 ∧ r0 ≤ 18446744073709551615) ∧ (0 ≤ r1 ∧ r1 ≤ 18446744073709551615) ∧ (¬ s.st = 0 → r0 = s.g) ∧ (s.st = 2 → r1 = s.v)
  else ∃ r0 r1, cs = tk sh s.hand ⟨1, s.j.a, s.j.b, col s.j, s.j.h⟩ s.st ⟨r0, r1, 0, 0, 0, 0, 0, 0⟩ ⟨false, 0⟩ ∧ (0 ≤ r0 ∧ r0 ≤ 18446744073709551615) ∧ (0 ≤ r1 ∧ r1 ≤ 18446744073709551615) ∧ (s.st = 1 → r0 = s.v) ∧ (s.st = 3 ∨ s.st = 4 → r1 = s.g)
def repS (sh : Shp) : List Value → ShS → Prop := fun cs s => Wf sh s ∧ s.told = ⟨false, 0⟩ ∧ rTk sh s cs
theorem rep_init {sh : Shp} (k : Int) {j : Jb} (hw : j.wf) {c : Int} (h : (j.kind = 2) ∨ (¬ j.kind = 2 ∧ c = col j)) : repS sh (tk sh k ⟨if j.kind = 2 then 2 else 1, j.a, j.b, c, j.h⟩ 0 .zero ⟨false, 0⟩) (sinit k j) := by
  refine ⟨wf_init sh k hw, rfl, ?_⟩
  have z : (0 : Int) ≤ 0 ∧ (0 : Int) ≤ 18446744073709551615 := by omega
  unfold rTk
  rcases h with h | ⟨h, rfl⟩
  · have h' : (sinit k j).j.kind = 2 := h
    rw [if_pos h', if_pos h]
    exact ⟨c, 0, 0, rfl, z, z, fun h => absurd rfl h, fun h => absurd h (by simp [sinit])⟩
  · have h' : ¬ (sinit k j).j.kind = 2 := h
    rw [if_neg h', if_neg h]
    exact ⟨0, 0, rfl, z, z, fun h => absurd h (by simp [sinit]), fun h => absurd h (by simp [sinit])⟩
theorem rany_any {sh : Shp} (k : Int) (j : Jb) (hw : j.wf) : ∃ cs, IsTk cs ∧ (serr true k j = 0 → repS sh cs (sinit k j)) ∧ ∀ w : World, Calls Tryz.prog 33 #[sh.val, .int .i64 k, j.val, kept0] w fun e w' => e = .returned (.tuple #[.agg cs.toArray, .int .i64 (serr true k j)]) ∧ Below w.heap.size w w' := by
  obtain ⟨s0, s1, s2, s3, s4, s5⟩ := sh
  obtain ⟨kind, a, b, c, hh⟩ := j
  have he : serr true k ⟨kind, a, b, c, hh⟩ = 0 := by simp [serr]
  rw [he]
  by_cases k2 : kind = 2
  · subst k2
    exact ⟨_, tk_is ⟨s0, s1, s2, s3, s4, s5⟩ k ⟨2, a, b, c % 2, hh⟩ 0 .zero ⟨false, 0⟩, fun _ => rep_init (sh := ⟨s0, s1, s2, s3, s4, s5⟩) k (j := ⟨2, a, b, c, hh⟩) hw (.inl rfl), fun w => rany_two w s0 s1 s2 s3 s4 s5 k a b c hh⟩
  · have e := rep_init (sh := ⟨s0, s1, s2, s3, s4, s5⟩) k (j := ⟨kind, a, b, c, hh⟩) (c := c % 2) hw (.inr ⟨k2, rfl⟩)
    simp only [if_neg k2] at e
    exact ⟨_, tk_is ⟨s0, s1, s2, s3, s4, s5⟩ k ⟨1, a, b, c % 2, hh⟩ 0 .zero ⟨false, 0⟩, fun _ => e, fun w => rany_one w s0 s1 s2 s3 s4 s5 k kind a b c hh k2⟩
theorem tk_kept (sh : Shp) (hand : Int) (j : Jb) (st : Int) (r : Rg) (a : Ans) (q : Nat) (hq : q < 4) : (tk sh hand j st r a)[24 + q]? = some (.int .u64 0) := by
  match q, hq with
  | 0, _ | 1, _ | 2, _ | 3, _ => rfl
set_option maxHeartbeats 4000000 in
theorem rstep_any {any : Bool} {sh : Shp} (h5 : Shape.R5 sh.a sh.b sh.c sh.d sh.e) (cs : List Value) (s : ShS) (hcs : IsTk cs) (hrep : repS sh cs s) (n : Nat) (f : Nat → Int) (hf : ∀ i, i < n → 0 ≤ f i ∧ f i ≤ 18446744073709551615) :
    ∃ cs', IsTk cs' ∧ (¬ sends sh s (stepOf n f (sreq sh s)) = true → repS sh cs' (snext sh s (stepOf n f (sreq sh s)))) ∧
    (sends sh s (stepOf n f (sreq sh s)) = true → cs'[22]? = some (.bool (snext sh s (stepOf n f (sreq sh s))).told.ok) ∧ cs'[23]? = some (.int .u64 (snext sh s (stepOf n f (sreq sh s))).told.val)) ∧ (∀ q, q < 4 → cs'[24 + q]? = some (.int .u64 0)) ∧
    ∀ (w : World) (g cap : Nat), IsRow w g n cap f → Calls Tryz.prog 35 #[.agg cs.toArray, .slice (some ⟨g, 0, none⟩) n cap] w fun e w' => e = .returned (.tuple #[.agg cs'.toArray, (stepOf n f (sreq sh s)).val, .bool (sends sh s (stepOf n f (sreq sh s)))]) ∧ IsRow w' g n cap (wordsOf n f (sreq sh s)) ∧ w.grownBy w' (some g) := by
  obtain ⟨H, htold, hrep⟩ := hrep
  have hxh := had_bounds hf (sreq sh s)
  obtain ⟨x, hx⟩ : ∃ x, stepOf n f (sreq sh s) = x := ⟨_, rfl⟩
  obtain ⟨f', hf'⟩ : ∃ f', wordsOf n f (sreq sh s) = f' := ⟨_, rfl⟩
  rw [hx] at hxh
  rw [hx, hf']
  have Hn : ¬ sends sh s x = true → Wf sh (snext sh s x) := fun h => snext_wf H hxh h
  obtain ⟨hst, hh, hg, hv, hxi, hxb⟩ := H
  obtain ⟨hand, j, st, gg, v, xi, xl, xb, told⟩ := s
  simp only at hst hh hg hv hxi hxb htold hx hf'
  subst htold
  unfold rTk at hrep
  simp only at hrep
  rcases hst with ⟨hk, hst⟩ | ⟨hk, hst⟩
  · rw [if_pos hk] at hrep
    obtain ⟨c, r0, r1, rfl, b0, b1, e0, e1⟩ := hrep
    rcases hst with rfl | rfl | rfl
    · have er : sreq sh ⟨hand, j, 0, gg, v, xi, xl, xb, ⟨false, 0⟩⟩ = ⟨hand, 1, 2, 0, 0, true⟩ := by simp [sreq, hk]
      rw [er] at hx hf'
      obtain ⟨en, hen⟩ : ∃ en, sends sh ⟨hand, j, 0, gg, v, xi, xl, xb, ⟨false, 0⟩⟩ x = en := ⟨_, rfl⟩
      have hen' : decide (headAt sh (idx x.had) < 0) = en := by
        rw [← hen]
        simp only [sends, hk, if_true]
        rcases head_cases h5 (idx x.had) with ⟨a1, a2, a3, a4⟩ | ⟨a1, a2, a3⟩
        · rw [decide_eq_true a1, decide_eq_false (by omega)]; rfl
        · rw [decide_eq_false a1, decide_eq_true (by omega)]; rfl
      rw [hen] at Hn ⊢
      refine ⟨_, tk_is sh hand ⟨2, j.a, j.b, c, j.h⟩ 1 ⟨x.had, r1, 0, 0, 0, 0, 0, 0⟩ ⟨false, 0⟩, fun h => ⟨Hn h, ?_, ?_⟩, fun h => ?_, fun q hq => tk_kept _ _ _ _ _ _ q hq, fun w g cap hr => rstep2 (tk_is _ _ _ _ _ _) (tk_is _ _ _ _ _ _) rfl hr (fun w1 r1' => rp0_any r1' h5 b0 hxh hen' hx hf')⟩
      · have ht : there sh (idx x.had) := by rw [← hen] at h; simpa [sends, hk] using h
        simp [snext, hk, ht]
      · have ht : there sh (idx x.had) := by rw [← hen] at h; simpa [sends, hk] using h
        unfold rTk
        rw [if_pos (by rw [snext_j]; exact hk)]
        simp only [snext, hk, ht, if_true]
        exact ⟨c, x.had, r1, rfl, hxh, b1, fun _ => rfl, fun h => absurd h (by decide)⟩
      · have ht : ¬ there sh (idx x.had) := by rw [← hen] at h; simpa [sends, hk] using h
        simp [snext, hk, ht, tk]
    · have er : sreq sh ⟨hand, j, 1, gg, v, xi, xl, xb, ⟨false, 0⟩⟩ = ⟨hand, 1, xl, 0, 0, true⟩ := by simp [sreq, hk]
      have hr0 := e0 (by decide)
      subst hr0
      obtain ⟨x1, x2, x3⟩ := hxi hk (by decide)
      rw [er, x3] at hx hf'
      have e1' : sends sh ⟨hand, j, 1, r0, v, xi, xl, xb, ⟨false, 0⟩⟩ x = false := by simp [sends, hk]
      rw [e1'] at Hn ⊢
      refine ⟨_, tk_is sh hand ⟨2, j.a, j.b, c, j.h⟩ 2 ⟨r0, x.had, 0, 0, 0, 0, 0, 0⟩ ⟨false, 0⟩, fun h => ⟨Hn h, ?_, ?_⟩, fun h => absurd h (by decide), fun q hq => tk_kept _ _ _ _ _ _ q hq, fun w g cap hr => rstep2 (tk_is _ _ _ _ _ _) (tk_is _ _ _ _ _ _) rfl hr (fun w1 r1' => rp1_any r1' h5 b0 hx hf')⟩
      · simp [snext, hk]
      · unfold rTk
        rw [if_pos (by rw [snext_j]; exact hk)]
        simp only [snext, hk, if_true, if_neg (show ¬ (1 : Int) = 0 by decide)]
        exact ⟨c, r0, x.had, rfl, b0, hxh, fun _ => rfl, fun _ => rfl⟩
    · have er : sreq sh ⟨hand, j, 2, gg, v, xi, xl, xb, ⟨false, 0⟩⟩ = ⟨hand, 5, 2, gg, bmp gg xb, true⟩ := by simp [sreq, hk]
      have hr0 := e0 (by decide)
      have hr1 := e1 rfl
      subst hr0 hr1
      have x4 := hxb hk rfl
      obtain ⟨x1, x2, x3⟩ := hxi hk (by decide)
      rw [er, x4] at hx hf'
      have e1' : sends sh ⟨hand, j, 2, r0, r1, xi, xl, xb, ⟨false, 0⟩⟩ x = x.ok := by simp [sends, hk]
      rw [e1'] at Hn ⊢
      cases hok : x.ok with
      | true =>
        rw [hok] at Hn
        refine ⟨_, tk_is sh hand ⟨2, j.a, j.b, c, j.h⟩ 0 ⟨r0, r1, 0, 0, 0, 0, 0, 0⟩ ⟨true, idx r0⟩, fun h => absurd rfl h, fun h => ?_, fun q hq => tk_kept _ _ _ _ _ _ q hq, fun w g cap hr => rstep2 (tk_is _ _ _ _ _ _) (tk_is _ _ _ _ _ _) rfl hr (fun w1 r1' => (rp2_yes r1' h5 b0 b1 hok hx hf').mono (fun e w' h => ⟨h.1.trans (by rw [hok]), h.2⟩))⟩
        simp [snext, hk, hok, tk, x1]
      | false =>
        rw [hok] at Hn
        refine ⟨_, tk_is sh hand ⟨2, j.a, j.b, c, j.h⟩ 0 ⟨r0, r1, 0, 0, 0, 0, 0, 0⟩ ⟨false, 0⟩, fun h => ⟨Hn h, ?_, ?_⟩, fun h => absurd h (by decide), fun q hq => tk_kept _ _ _ _ _ _ q hq, fun w g cap hr => rstep2 (tk_is _ _ _ _ _ _) (tk_is _ _ _ _ _ _) rfl hr (fun w1 r1' => (rp2_no r1' h5 b0 b1 hok hx hf').mono (fun e w' h => ⟨h.1.trans (by rw [hok]), h.2⟩))⟩
        · simp [snext, hk, hok]
        · unfold rTk
          rw [if_pos (by rw [snext_j]; exact hk)]
          simp only [snext, hk, hok, if_true, if_neg (show ¬ (2 : Int) = 0 by decide), if_neg (show ¬ (2 : Int) = 1 by decide), if_neg (show ¬ false = true by decide)]
          exact ⟨c, r0, r1, rfl, b0, b1, fun h => (h (by simp)).elim, fun h => absurd h (by decide)⟩
  · rw [if_neg hk] at hrep
    obtain ⟨r0, r1, rfl, b0, b1, e0, e1⟩ := hrep
    have hw : 0 ≤ j.h ∧ j.h ≤ 18446744073709551615 := hh
    rcases hst with rfl | rfl | rfl | rfl | rfl
    · have er : sreq sh ⟨hand, j, 0, gg, v, xi, xl, xb, ⟨false, 0⟩⟩ = ⟨hand, 1, headAt sh (idx j.h), 0, 0, true⟩ := by simp [sreq, hk]
      rw [er] at hx hf'
      obtain ⟨wh, hwh⟩ : ∃ wh, whiteB x.had (j.h / 4294967296) (col j) = wh := ⟨_, rfl⟩
      have hen : sends sh ⟨hand, j, 0, gg, v, xi, xl, xb, ⟨false, 0⟩⟩ x = !wh := by simp [sends, hk, hwh]
      rw [hen] at Hn ⊢
      refine ⟨_, tk_is sh hand ⟨1, j.a, j.b, col j, j.h⟩ 1 ⟨x.had, r1, 0, 0, 0, 0, 0, 0⟩ ⟨false, 0⟩, fun h => ⟨Hn h, ?_, ?_⟩, fun h => ?_, fun q hq => tk_kept _ _ _ _ _ _ q hq, fun w g cap hr => rm0_any hr h5 hw hxh hwh rfl hx hf'⟩
      · have ht : wh = true := by simpa using h
        simp [snext, hk, hwh, ht]
      · have ht : wh = true := by simpa using h
        unfold rTk
        rw [if_neg (by rw [snext_j]; exact hk)]
        simp only [snext, hk, hwh, ht, if_true, if_false]
        exact ⟨x.had, r1, rfl, hxh, b1, fun _ => rfl, fun h => absurd h (by decide)⟩
      · have ht : wh = false := by simpa using h
        simp [snext, hk, hwh, ht, tk]
    · have er : sreq sh ⟨hand, j, 1, gg, v, xi, xl, xb, ⟨false, 0⟩⟩ = ⟨hand, 5, headAt sh (idx j.h), v, xr v, true⟩ := by simp [sreq, hk]
      have hr0 := e0 rfl
      subst hr0
      rw [er] at hx hf'
      have e1' : sends sh ⟨hand, j, 1, gg, r0, xi, xl, xb, ⟨false, 0⟩⟩ x = false := by simp [sends, hk]
      rw [e1'] at Hn ⊢
      cases hok : x.ok with
      | true =>
        refine ⟨_, tk_is sh hand ⟨1, j.a, j.b, col j, j.h⟩ 2 ⟨r0, r1, 0, 0, 0, 0, 0, 0⟩ ⟨false, 0⟩, fun h => ⟨Hn h, ?_, ?_⟩, fun h => absurd h (by decide), fun q hq => tk_kept _ _ _ _ _ _ q hq, fun w g cap hr => rm1_yes hr h5 hw b0 hok hx hf'⟩
        · simp [snext, hk, hok]
        · unfold rTk
          rw [if_neg (by rw [snext_j]; exact hk)]
          simp only [snext, hk, hok, if_true, if_false, if_neg (show ¬ (1 : Int) = 0 by decide)]
          exact ⟨r0, r1, rfl, b0, b1, fun h => absurd h (by decide), fun h => absurd h (by decide)⟩
      | false =>
        refine ⟨_, tk_is sh hand ⟨1, j.a, j.b, col j, j.h⟩ 0 ⟨r0, r1, 0, 0, 0, 0, 0, 0⟩ ⟨false, 0⟩, fun h => ⟨Hn h, ?_, ?_⟩, fun h => absurd h (by decide), fun q hq => tk_kept _ _ _ _ _ _ q hq, fun w g cap hr => rm1_no hr h5 hw b0 hok hx hf'⟩
        · simp [snext, hk, hok]
        · unfold rTk
          rw [if_neg (by rw [snext_j]; exact hk)]
          simp only [snext, hk, hok, if_true, if_false, if_neg (show ¬ (1 : Int) = 0 by decide), if_neg (show ¬ false = true by decide)]
          exact ⟨r0, r1, rfl, b0, b1, fun h => absurd h (by decide), fun h => absurd h (by decide)⟩
    · have er : sreq sh ⟨hand, j, 2, gg, v, xi, xl, xb, ⟨false, 0⟩⟩ = ⟨hand, 1, 2, 0, 0, true⟩ := by simp [sreq, hk]
      rw [er] at hx hf'
      have e1' : sends sh ⟨hand, j, 2, gg, v, xi, xl, xb, ⟨false, 0⟩⟩ x = false := by simp [sends, hk]
      rw [e1'] at Hn ⊢
      refine ⟨_, tk_is sh hand ⟨1, j.a, j.b, col j, j.h⟩ 3 ⟨r0, x.had, 0, 0, 0, 0, 0, 0⟩ ⟨false, 0⟩, fun h => ⟨Hn h, ?_, ?_⟩, fun h => absurd h (by decide), fun q hq => tk_kept _ _ _ _ _ _ q hq, fun w g cap hr => rm2_any hr h5 hw hx hf'⟩
      · simp [snext, hk]
      · unfold rTk
        rw [if_neg (by rw [snext_j]; exact hk)]
        simp only [snext, hk, if_true, if_false, if_neg (show ¬ (2 : Int) = 0 by decide), if_neg (show ¬ (2 : Int) = 1 by decide)]
        exact ⟨r0, x.had, rfl, b0, hxh, fun h => absurd h (by decide), fun _ => rfl⟩
    · have er : sreq sh ⟨hand, j, 3, gg, v, xi, xl, xb, ⟨false, 0⟩⟩ = ⟨hand, 2, linkAt sh (idx j.h), 0, idx gg, true⟩ := by simp [sreq, hk]
      have hr1 := e1 (.inl rfl)
      subst hr1
      rw [er] at hx hf'
      have e1' : sends sh ⟨hand, j, 3, r1, v, xi, xl, xb, ⟨false, 0⟩⟩ x = false := by simp [sends, hk]
      rw [e1'] at Hn ⊢
      refine ⟨_, tk_is sh hand ⟨1, j.a, j.b, col j, j.h⟩ 4 ⟨r0, r1, 0, 0, 0, 0, 0, 0⟩ ⟨false, 0⟩, fun h => ⟨Hn h, ?_, ?_⟩, fun h => absurd h (by decide), fun q hq => tk_kept _ _ _ _ _ _ q hq, fun w g cap hr => rm3_any hr h5 hw b1 hx hf'⟩
      · simp [snext, hk]
      · unfold rTk
        rw [if_neg (by rw [snext_j]; exact hk)]
        simp only [snext, hk, if_true, if_false, if_neg (show ¬ (3 : Int) = 0 by decide), if_neg (show ¬ (3 : Int) = 1 by decide), if_neg (show ¬ (3 : Int) = 2 by decide)]
        exact ⟨r0, r1, rfl, b0, b1, fun h => absurd h (by decide), fun _ => rfl⟩
    · have er : sreq sh ⟨hand, j, 4, gg, v, xi, xl, xb, ⟨false, 0⟩⟩ = ⟨hand, 5, 2, gg, bmp gg (idx j.h), true⟩ := by simp [sreq, hk]
      have hr1 := e1 (.inr rfl)
      subst hr1
      rw [er] at hx hf'
      have e1' : sends sh ⟨hand, j, 4, r1, v, xi, xl, xb, ⟨false, 0⟩⟩ x = x.ok := by simp [sends, hk]
      rw [e1'] at Hn ⊢
      cases hok : x.ok with
      | true =>
        rw [hok] at Hn
        refine ⟨_, tk_is sh hand ⟨1, j.a, j.b, col j, j.h⟩ 2 ⟨r0, r1, 0, 0, 0, 0, 0, 0⟩ ⟨true, idx j.h⟩, fun h => absurd rfl h, fun h => ?_, fun q hq => tk_kept _ _ _ _ _ _ q hq, fun w g cap hr => (rm4_yes hr h5 hw b1 hok hx hf').mono (fun e w' h => ⟨h.1.trans (by rw [hok]), h.2⟩)⟩
        simp [snext, hk, hok, tk]
      | false =>
        rw [hok] at Hn
        refine ⟨_, tk_is sh hand ⟨1, j.a, j.b, col j, j.h⟩ 2 ⟨r0, r1, 0, 0, 0, 0, 0, 0⟩ ⟨false, 0⟩, fun h => ⟨Hn h, ?_, ?_⟩, fun h => absurd h (by decide), fun q hq => tk_kept _ _ _ _ _ _ q hq, fun w g cap hr => (rm4_no hr h5 hw b1 hok hx hf').mono (fun e w' h => ⟨h.1.trans (by rw [hok]), h.2⟩)⟩
        · simp [snext, hk, hok]
        · unfold rTk
          rw [if_neg (by rw [snext_j]; exact hk)]
          simp only [snext, hk, hok, if_false, if_neg (show ¬ (4 : Int) = 0 by decide), if_neg (show ¬ (4 : Int) = 1 by decide), if_neg (show ¬ (4 : Int) = 2 by decide), if_neg (show ¬ (4 : Int) = 3 by decide), if_neg (show ¬ false = true by decide)]
          exact ⟨r0, r1, rfl, b0, b1, fun h => absurd h (by decide), fun h => absurd h (by decide)⟩
theorem rkindAny {sh : Shp} (h5 : Shape.R5 sh.a sh.b sh.c sh.d sh.e) : RKind (kShd true sh) (repS sh) sh 33 35 :=
  ⟨fun k j _ _ hw => rany_any k j hw, fun cs s hcs hrep n f hf => rstep_any (any := true) h5 cs s hcs hrep n f hf⟩
end Shd
end Go.Proofs.YtnodkeoikamonaaGreat
/-
  ShadeTasks: the statement's own maker of tasks, and what both sides tell.
-/
namespace Go.Proofs.YtnodkeoikamonaaGreat
open Go.RowKit
set_option linter.unusedVariables false
set_option linter.unusedSimpArgs false
set_option linter.unnecessarySimpa false
set_option maxRecDepth 20000
namespace Shd
def mkS (b : Nat) : Value := .func (.func 18) #[] #[.pointer (some ⟨b, 0, none⟩)]
theorem mkS_nil (b : Nat) (w : World) : (binOp .eql 94 (.func (.func 18) #[] #[.pointer (some ⟨b, 0, none⟩)]) .nilFunc).run Tryz.prog w = .ok (.bool false) w := by kernel_rfl
structure InBox (w : World) (q : Nat) (sh : Shp) : Prop where
  ca : w.cell? ⟨q, 0, none⟩ = some (.int .i64 sh.a)
  cb : w.cell? ⟨q, 1, none⟩ = some (.int .i64 sh.b)
  cc : w.cell? ⟨q, 2, none⟩ = some (.int .i64 sh.c)
  cd : w.cell? ⟨q, 3, none⟩ = some (.int .i64 sh.d)
  ce : w.cell? ⟨q, 4, none⟩ = some (.int .i64 sh.e)
  cf : w.cell? ⟨q, 5, none⟩ = some (.int .i64 sh.f)
theorem InBox.below {w w' : World} {b : Nat} {sh : Shp} {B : Nat} (h : InBox w b sh) (hb : Below B w w') (hl : b < B) : InBox w' b sh :=
  ⟨(hb.cell (p := ⟨b, 0, none⟩) hl).trans h.ca, (hb.cell (p := ⟨b, 1, none⟩) hl).trans h.cb, (hb.cell (p := ⟨b, 2, none⟩) hl).trans h.cc, (hb.cell (p := ⟨b, 3, none⟩) hl).trans h.cd, (hb.cell (p := ⟨b, 4, none⟩) hl).trans h.ce, (hb.cell (p := ⟨b, 5, none⟩) hl).trans h.cf⟩
set_option maxHeartbeats 8000000 in
theorem clo_two {w : World} {b : Nat} {sh : Shp} (H : InBox w b sh) (hand x y z hh : Int) :
    Calls Tryz.prog 18 #[.int .i64 hand, (⟨2, x, y, z, hh⟩ : Jb).val, .pointer (some ⟨b, 0, none⟩)] w fun e w' => ∃ bb, e = .returned (.tuple #[.iface 109 (.pointer (some ⟨bb, 0, none⟩)), .int .i64 0]) ∧
      w'.rowIs bb 114 14 (pC sh hand (fnP bb 0) 0 ⟨false, 0⟩ 0 0 0) ∧ w.heap.size ≤ bb ∧ w.grownBy w' none := by
  have PU := hide (fun w1 : World => pull_ok sh hand w1)
  obtain ⟨s0, s1, s2, s3, s4, s5⟩ := sh
  obtain ⟨r0, r1, r2, r3, r4, r5⟩ := H
  simp only at r0 r1 r2 r3 r4 r5
  have ls := World.block_lt_of_cell? _ _ r0
  simp only at ls
  simp only [Shp.val, Jb.val] at PU ⊢
  go_enter Tryz.func18, Tryz.ntmps18
  go_wp2_with (go_at_call 19; refine (PU.out _).mono ?_; rintro e w3 ⟨bb, rfl, hr3, hb3, hg3⟩; have HR := hide hr3; have HG := hide hg3; simp only [World.size_alloc] at hb3; clear hr3 hg3)
  go_ret2
  exact ⟨bb, rfl, HR.out, by omega, grown_trans (grown_alloc (grown_refl _ _) _) HG.out⟩
set_option maxHeartbeats 8000000 in
theorem clo_one {w : World} {b : Nat} {sh : Shp} (h5 : Shape.R5 sh.a sh.b sh.c sh.d sh.e) (H : InBox w b sh) (hand k x y z hh : Int) (hk : ¬ k = 2) (hw : 0 ≤ hh ∧ hh ≤ 18446744073709551615) :
    Calls Tryz.prog 18 #[.int .i64 hand, (⟨k, x, y, z, hh⟩ : Jb).val, .pointer (some ⟨b, 0, none⟩)] w fun e w' => ∃ bb, e = .returned (.tuple #[.iface 116 (.pointer (some ⟨bb, 0, none⟩)), .int .i64 0]) ∧
      w'.rowIs bb 120 11 (mC hand (fnM bb 0) 0 ⟨false, 0⟩ (idx hh) (hh / 4294967296) (z % 2) (headAt sh (idx hh)) (linkAt sh (idx hh)) 0) ∧ w.heap.size ≤ bb ∧ w.grownBy w' none := by
  have MK := hide (fun w1 : World => mark_ok h5 hand hh z hw w1)
  obtain ⟨hp, hhp⟩ : ∃ p, headAt sh (idx hh) = p := ⟨_, rfl⟩
  obtain ⟨lp, hlp⟩ : ∃ p, linkAt sh (idx hh) = p := ⟨_, rfl⟩
  rw [hhp, hlp] at MK ⊢
  clear hhp hlp h5 hw
  have e2 : (k == 2) = false := by simpa using hk
  obtain ⟨s0, s1, s2, s3, s4, s5⟩ := sh
  obtain ⟨r0, r1, r2, r3, r4, r5⟩ := H
  simp only at r0 r1 r2 r3 r4 r5
  have ls := World.block_lt_of_cell? _ _ r0
  simp only at ls
  simp only [Shp.val, Jb.val] at MK ⊢
  go_enter Tryz.func18, Tryz.ntmps18
  go_wp2_with (go_at_call 20; refine (MK.out _).mono ?_; rintro e w3 ⟨bb, rfl, hr3, hb3, hg3⟩; have HR := hide hr3; have HG := hide hg3; simp only [World.size_alloc] at hb3; clear hr3 hg3)
  go_ret2
  exact ⟨bb, rfl, HR.out, by omega, grown_trans (grown_alloc (grown_refl _ _) _) HG.out⟩
theorem clo_any {w : World} {b : Nat} {sh : Shp} (h5 : Shape.R5 sh.a sh.b sh.c sh.d sh.e) (H : InBox w b sh) (hand : Int) (j : Jb) (hw : j.wf) :
    Calls Tryz.prog 18 #[.int .i64 hand, j.val, .pointer (some ⟨b, 0, none⟩)] w fun e w' => ∃ bb, e = .returned (.tuple #[.iface ((kShd true sh).tid j) (.pointer (some ⟨bb, 0, none⟩)), .int .i64 0]) ∧
      w'.rowIs bb ((kShd true sh).t j) ((kShd true sh).n j) (scell sh bb (sinit hand j)) ∧ w.heap.size ≤ bb ∧ w.grownBy w' none := by
  obtain ⟨k, x, y, z, hh⟩ := j
  by_cases hk : k = 2
  · subst hk
    exact clo_two H hand x y z hh
  · have := clo_one h5 H hand k x y z hh hk hw
    have e : ∀ bb, scell sh bb (sinit hand ⟨k, x, y, z, hh⟩) = mC hand (fnM bb 0) 0 ⟨false, 0⟩ (idx hh) (hh / 4294967296) (z % 2) (headAt sh (idx hh)) (linkAt sh (idx hh)) 0 := fun bb => by simp [scell, sinit, hk, col]
    simp only [kShd, spick, if_neg hk, e]
    exact this
set_option maxHeartbeats 8000000 in
theorem makesS {w : World} {b : Nat} {sh : Shp} (h5 : Shape.R5 sh.a sh.b sh.c sh.d sh.e) (H : InBox w b sh) : MakesAt (kShd true sh) (mkS b) w := by
  intro hand j h0 h8 hw
  refine ⟨fun _ => ?_, fun h => absurd (by simp [kShd, serr]) h⟩
  have ls := World.block_lt_of_cell? _ _ H.ca
  simp only at ls
  have hn := mkS_nil b
  obtain ⟨tid, htid⟩ : ∃ t, (kShd true sh).tid j = t := ⟨_, rfl⟩
  have hi := iface_nil tid
  have CL := hide (clo_any h5 (H.below ((Below.refl w.heap.size w).alloc (Nat.le_refl _) (.cells #[.int .i64 j.kind, .int .i64 j.a, .int .i64 j.b, .int .i64 j.c, .int .u64 j.h] 52)) ls) hand j hw)
  rw [htid] at CL ⊢
  clear htid H h5
  obtain ⟨t, ht⟩ : ∃ t, (kShd true sh).t j = t := ⟨_, rfl⟩
  obtain ⟨n, hn'⟩ : ∃ n, (kShd true sh).n j = n := ⟨_, rfl⟩
  obtain ⟨C, hC⟩ : ∃ C : Nat → Nat → Value, ∀ bb, scell sh bb (sinit hand j) = C bb := ⟨_, fun _ => rfl⟩
  have hC2 : ∀ bb, (kShd true sh).cell bb ((kShd true sh).init hand j) = C bb := hC
  rw [ht, hn'] at CL ⊢
  simp only [hC] at CL
  simp only [hC2]
  clear ht hn' hC hC2
  obtain ⟨kind, x, y, z, hh⟩ := j
  unfold mkS
  simp only [Jb.val] at CL ⊢
  go_enter Tryz.func73, Tryz.ntmps73
  go_wp2_with fail
  refine CL.out.mono ?_
  rintro e w1 ⟨bb, rfl, hr, hb, hg⟩
  simp only [World.size_alloc] at hb
  have HR := hide (And.intro hr hg)
  clear hr hg
  go_wp2_with fail
  go_ret2
  exact ⟨bb, rfl, HR.out.1, by omega, grown_trans (grown_alloc (grown_refl _ _) _) HR.out.2⟩
theorem noAns {K : Kd} {rep : List Value → K.σ → Prop} {w w' : World} {P : Par} {f : Nat → Int} {most : Int} {v : Value} {V : Vw} (h : RAllR K rep w P f most (.returned v) w') (ht : TV w' V v) : V.er ≠ 0 → V.m = 0 := by
  intro hne
  obtain ⟨sa, sc, wa, wc, aa, ac, rfl, -⟩ := ht
  rcases h.2 with ⟨er, _, he⟩ | ⟨_, _, v', he, hT⟩
  · simp [errVal] at he
    exact he.2.1.2.1
  · cases he
    obtain ⟨blk, c, un, capw, sv, hv, -⟩ := hT
    simp at hv
    exact absurd hv.2.2 hne
theorem tviews {sh : Shp} (h5 : Shape.R5 sh.a sh.b sh.c sh.d sh.e) (P : Par) (f : Nat → Int) (most : Int) (hn : P.n ≤ 4096) (hn63 : P.nh ≤ 9223372036854775807) (hf : ∀ i, i < P.n → 0 ≤ f i ∧ f i ≤ 18446744073709551615) (hjw : ∀ h, h < P.nh → ∀ j, j < P.jn h → (P.jb h j).wf) :
    ∃ V : Vw, V.k ≤ 65536 ∧ V.n ≤ 4096 ∧ V.m ≤ 8 ∧ (∀ h, h < V.m → V.dn h ≤ 256) ∧
    (∀ (w : World) ao cap aoh caph aos caps, Sees w w.heap.size ao P.n f → (ao = none → P.n = 0 ∧ cap = 0) → SeesH w w.heap.size aoh P.nh P.jn P.jb → SeesI w w.heap.size aos P.ns P.sched →
      Calls Tryz.prog 16 #[sh.val, .slice ao P.n cap, .slice aoh P.nh caph, .slice aos P.ns caps, .int .i64 most] w fun e w' => Below w.heap.size w w' ∧ (V.er ≠ 0 → V.m = 0) ∧ ∃ v, e = .returned v ∧ TV w' V v) ∧
    (∀ (w : World) ao cap aoh caph aos caps b, b < w.heap.size → InBox w b sh → Sees w w.heap.size ao P.n f → SeesH w w.heap.size aoh P.nh P.jn P.jb → SeesI w w.heap.size aos P.ns P.sched →
      Calls Tryz.prog 17 #[.slice ao P.n cap, .slice aoh P.nh caph, .slice aos P.ns caps, .int .i64 most, mkS b] w fun e w' => Below w.heap.size w w' ∧ ∃ v, e = .returned v ∧ TV w' V v) := by
  obtain ⟨V, v1, v2, v3, v4, v5, v6⟩ := views (kShd true sh) (repS sh) P f most
  refine ⟨V, v1, v2, v3, v4, ?_, ?_⟩
  · intro w ao cap aoh caph aos caps S hnil SH SI
    exact (LA16.ran_all (rkindAny h5) S hnil hn hf SH hn63 SI hjw).mono fun e w' h => by
      obtain ⟨hb, v, rfl, ht⟩ := v5 _ _ _ h
      exact ⟨hb, noAns h ht, v, rfl, ht⟩
  · intro w ao cap aoh caph aos caps b hb H S SH SI
    exact (OfAny.play_all S hf SH hn63 SI hjw (isKind h5) (fun w' B => makesS h5 (H.below B hb))).mono fun e w' h => v6 _ _ _ h
end Shd
end Go.Proofs.YtnodkeoikamonaaGreat
