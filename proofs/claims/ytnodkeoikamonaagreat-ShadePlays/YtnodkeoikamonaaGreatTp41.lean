/-
  Lemmas: ShadeRH, ShadeRK, L16Wrong, L16RanE.
-/
import Derived.Test.YtnodkeoikamonaaGreatTp40
import Derived.Test.YtnodkeoikamonaaGreatTp36
import Derived.Test.YtnodkeoikamonaaGreatTp37
import Derived.Test.YtnodkeoikamonaaGreatTp38
import Derived.Test.YtnodkeoikamonaaGreatTp39
import Derived.Test.YtnodkeoikamonaaGreatTp20
import Derived.Test.YtnodkeoikamonaaGreatTp19
/-
  Shade's reference: Step is that of the job's kind.
-/
namespace Go.Proofs.YtnodkeoikamonaaGreat
open Go.RowKit
set_option linter.unusedVariables false
set_option linter.unusedSimpArgs false
set_option linter.unnecessarySimpa false
set_option maxRecDepth 20000
namespace Shd
set_option maxHeartbeats 8000000 in
theorem rstep2 {w : World} {g n cap : Nat} {f f' : Nat → Int} {x : Stp} {l0 l1 : List Value} {en : Bool} (hl : IsTk l0) (hl1 : IsTk l1) (g7 : l0[7]? = some (.int .i64 2)) (hr : IsRow w g n cap f)
    (hc : ∀ w1 : World, IsRow w1 g n cap f → Calls Tryz.prog 63 #[.agg l0.toArray, .slice (some ⟨g, 0, none⟩) n cap] w1 fun e w' => e = .returned (.tuple #[.agg l1.toArray, x.val, .bool en]) ∧ IsRow w' g n cap f' ∧ w1.grownBy w' (some g)) :
    Calls Tryz.prog 35 #[.agg l0.toArray, .slice (some ⟨g, 0, none⟩) n cap] w fun e w' => e = .returned (.tuple #[.agg l1.toArray, x.val, .bool en]) ∧ IsRow w' g n cap f' ∧ w.grownBy w' (some g) := by
  have lg := hr.lt
  have hll : l0.length = 28 := hl.1
  obtain ⟨W3, hW3⟩ : ∃ W3, ((w.alloc (.cells l0.toArray 85)).alloc (.cells tk0.toArray 85)).alloc (.cells [Value.int .i64 0, .int .i64 0, .int .i64 0, .int .u64 0, .int .u64 0, .bool false].toArray 71) = W3 := ⟨_, rfl⟩
  have sz3 : W3.heap.size = w.heap.size + 3 := by rw [← hW3]; simp
  have R0 : W3.rowIs w.heap.size 85 28 (lrow l0) := by rw [← hW3]; exact ((rowL_alloc w l0 _ hll).alloc _).alloc _
  have R1 : W3.rowIs (w.heap.size + 1) 85 28 (lrow tk0) := by
    rw [← hW3]
    have := (rowL_alloc (w.alloc (.cells l0.toArray 85)) tk0 85 (n := 28) rfl).alloc (.cells [Value.int .i64 0, .int .i64 0, .int .i64 0, .int .u64 0, .int .u64 0, .bool false].toArray 71)
    rwa [World.size_alloc] at this
  have R2 : W3.rowIs (w.heap.size + 2) 71 6 (lrow [Value.int .i64 0, .int .i64 0, .int .i64 0, .int .u64 0, .int .u64 0, .bool false]) := by
    rw [← hW3]
    have := rowL_alloc ((w.alloc (.cells l0.toArray 85)).alloc (.cells tk0.toArray 85)) [Value.int .i64 0, .int .i64 0, .int .i64 0, .int .u64 0, .int .u64 0, .bool false] 71 (n := 6) rfl
    rwa [World.size_alloc, World.size_alloc] at this
  have G3 := hide (show w.grownBy W3 (some g) from by rw [← hW3]; exact grown_alloc (grown_alloc (grown_alloc (grown_refl _ _) _) _) _)
  have HR3 := hide (show IsRow W3 g n cap f from hr.grown (grown_none (by rw [← hW3]; exact grown_alloc (grown_alloc (grown_alloc (grown_refl _ _) _) _) _) none) (by simp))
  have c7 : W3.cell? ⟨w.heap.size, 7, none⟩ = some (.int .i64 2) := by rw [R0.cell (i := 7) (by omega), lrow_of g7]
  obtain ⟨dT, hdT1, hdT2⟩ := row79
  have DT1 := hide hdT1
  have DT2 := hide hdT2
  obtain ⟨dS, hdS1, hdS2⟩ := row46
  have HD := hide (And.intro hdS1 hdS2)
  have RR := hide (rowIs.range R0 hll)
  have HR1 := hide R1
  have HR2 := hide R2
  have HC := hide (hc W3 HR3.out)
  have HL := hide hll
  have HL1 := hide hl1
  clear hdT1 hdT2 hdS1 hdS2 hc hr R0 R1 R2 hl hl1 g7
  simp only [tk0] at hW3
  go_enter Tryz.func35, Tryz.ntmps35
  go_wp2_with (refine wpList_load_mid (by rfl) 85 (.tmp 2) (by rfl) w.heap.size 0 (by rfl) l0 dT (by exact RR.out) (by exact DT1.out) (by exact DT2.out) (by rw [HL.out]; exact size79) ?_)
  refine HC.out.mono ?_
  rintro e w1 ⟨rfl, hr1, hg1⟩
  have sz1 := hg1.size
  have T1 := HR1.out.of_block (hg1.block (w.heap.size + 1) (by omega) (by simp; omega))
  have HT1 := hide (rowIs.there T1 (o := 0) (m := 28) (by omega))
  have RS := hide (HR2.out.of_block (hg1.block (w.heap.size + 2) (by omega) (by simp; omega)))
  have HRW := hide hr1
  have HGW := hide (grown_trans G3.out hg1)
  have l2 : w.heap.size + 2 < w1.heap.size := by omega
  clear hr1 hg1 T1 HC c7 hW3 HR1 HR2 RR
  obtain ⟨W5, hW5⟩ : ∃ W5, w1.setCells (w.heap.size + 1) 0 l1 = W5 := ⟨_, rfl⟩
  have tt5 : Touch w1 W5 (fun k => k = w.heap.size + 1) := by rw [← hW5]; exact touch_setCells _ _ _ _
  have r5 := hide (show W5.rangeAt (w.heap.size + 1) 0 l1 from by rw [← hW5]; exact World.rangeAt_setCells_same w1 (w.heap.size + 1) 0 l1 (by rw [HL1.out.1]; exact HT1.out))
  have RS5 := hide (RS.out.of_block (tt5.block _ (by omega) (by omega)))
  have HR5 := hide (HRW.out.block (tt5.block g HRW.out.lt (by omega)))
  have HG5 := hide (show w.grownBy W5 (some g) from by
    have := (Touch.of_grown HGW.out).trans' tt5 (S := fun k => some k = some g) (fun k hk h => absurd hk (by omega))
    exact ⟨this.os, this.tape, this.output, this.size, fun k hk hn => this.block k hk (by simpa using hn)⟩)
  have l5 : w.heap.size + 2 < W5.heap.size := by have := tt5.size; omega
  have z0 : W5.cell? ⟨w.heap.size + 2, 0, none⟩ = some (.int .i64 0) := by rw [RS5.out.cell (i := 0) (by omega)]; rfl
  have zf0 := RS5.out.frozen 0
  have z1 : W5.cell? ⟨w.heap.size + 2, 1, none⟩ = some (.int .i64 0) := by rw [RS5.out.cell (i := 1) (by omega)]; rfl
  have zf1 := RS5.out.frozen 1
  have z2 : W5.cell? ⟨w.heap.size + 2, 2, none⟩ = some (.int .i64 0) := by rw [RS5.out.cell (i := 2) (by omega)]; rfl
  have zf2 := RS5.out.frozen 2
  have z3 : W5.cell? ⟨w.heap.size + 2, 3, none⟩ = some (.int .u64 0) := by rw [RS5.out.cell (i := 3) (by omega)]; rfl
  have zf3 := RS5.out.frozen 3
  have z4 : W5.cell? ⟨w.heap.size + 2, 4, none⟩ = some (.int .u64 0) := by rw [RS5.out.cell (i := 4) (by omega)]; rfl
  have zf4 := RS5.out.frozen 4
  have z5 : W5.cell? ⟨w.heap.size + 2, 5, none⟩ = some (.bool false) := by rw [RS5.out.cell (i := 5) (by omega)]; rfl
  have zf5 := RS5.out.frozen 5
  clear tt5 RS HGW
  simp only [Stp.val]
  go_wp2_with (refine wpList_store_mid (by rfl) 85 (.tmp 4) (.tmp 19) (by rfl) (w.heap.size + 1) 0 l1.toArray (by rfl) (by rfl) (by simpa [HL1.out.1] using HT1.out) (by simpa [HL1.out.1] using size79) (by exact all_oneCell_toArray HL1.out.2) ?_)
  obtain ⟨W6, hW6⟩ : ∃ W6, ((((((W5.setCell ⟨w.heap.size + 2, 0, none⟩ (.int .i64 x.hand)).setCell ⟨w.heap.size + 2, 1, none⟩ (.int .i64 x.act)).setCell ⟨w.heap.size + 2, 2, none⟩ (.int .i64 x.at_)).setCell ⟨w.heap.size + 2, 3, none⟩ (.int .u64 x.had)).setCell ⟨w.heap.size + 2, 4, none⟩ (.int .u64 x.put)).setCell ⟨w.heap.size + 2, 5, none⟩ (.bool x.ok)) = W6 := ⟨_, rfl⟩
  have tt6 : Touch W5 W6 (fun k => k = w.heap.size + 2) := by rw [← hW6]; exact (Touch.setCell (S := fun k => k = w.heap.size + 2) (Touch.setCell (S := fun k => k = w.heap.size + 2) (Touch.setCell (S := fun k => k = w.heap.size + 2) (Touch.setCell (S := fun k => k = w.heap.size + 2) (Touch.setCell (S := fun k => k = w.heap.size + 2) (Touch.setCell (S := fun k => k = w.heap.size + 2) (Touch.refl W5 _) ⟨w.heap.size + 2, 0, none⟩ (.inl rfl) _) ⟨w.heap.size + 2, 1, none⟩ (.inl rfl) _) ⟨w.heap.size + 2, 2, none⟩ (.inl rfl) _) ⟨w.heap.size + 2, 3, none⟩ (.inl rfl) _) ⟨w.heap.size + 2, 4, none⟩ (.inl rfl) _) ⟨w.heap.size + 2, 5, none⟩ (.inl rfl) _)
  have rq : W6.rangeAt (w.heap.size + 2) 0 [Value.int .i64 x.hand, .int .i64 x.act, .int .i64 x.at_, .int .u64 x.had, .int .u64 x.put, .bool x.ok] := by rw [← hW6]; exact rowIs.range (rowIs.setL (rowIs.setL (rowIs.setL (rowIs.setL (rowIs.setL (rowIs.setL RS5.out (i := 0) (by simp) (.int .i64 x.hand)) (i := 1) (by simp) (.int .i64 x.act)) (i := 2) (by simp) (.int .i64 x.at_)) (i := 3) (by simp) (.int .u64 x.had)) (i := 4) (by simp) (.int .u64 x.put)) (i := 5) (by simp) (.bool x.ok)) (by simp)
  have r6 := rangeAt_block r5.out (tt6.block (w.heap.size + 1) (by omega) (by omega))
  have hT := run_loadVar_mid (P := Tryz.prog) W6 (w.heap.size + 1) 0 _ l1 dT r6 DT1.out DT2.out (by rw [HL1.out.1]; exact size79)
  have hS := run_loadVar_mid (P := Tryz.prog) W6 (w.heap.size + 2) 0 _ _ dS rq HD.out.1 HD.out.2 size46
  try simp only [hW5, hW6]
  refine bodyPost_ret (v := .tuple #[.agg l1.toArray, x.val, .bool en]) ?res rfl ⟨rfl, HR5.out.block (tt6.block g HR5.out.lt (by omega)), ?gro⟩
  case res => exact results_cct (Q := Tryz.prog) (fn := Tryz.f35) (t := 4) (t' := 5) (t'' := 6) (W := W6) (by rfl) (by rfl) hT (by rfl) hS
  case gro =>
    have := (Touch.of_grown HG5.out).trans' tt6 (S := fun k => some k = some g) (fun k hk h => absurd hk (by omega))
    exact ⟨this.os, this.tape, this.output, this.size, fun k hk hn => this.block k hk (by simpa using hn)⟩
end Shd
end Go.Proofs.YtnodkeoikamonaaGreat
/-
  Shade's reference: its tasks are those of the kind.
-/
namespace Go.Proofs.YtnodkeoikamonaaGreat
open Go.RowKit
set_option linter.unusedVariables false
set_option linter.unusedSimpArgs false
set_option maxRecDepth 20000
namespace Shd
def rTk (sh : Shp) (s : ShS) (cs : List Value) : Prop :=
  if s.j.kind = 2 then ∃ c r0 r1, cs = tk sh s.hand ⟨2, s.j.a, s.j.b, c, s.j.h⟩ s.st ⟨r0, r1, 0, 0, 0, 0, 0, 0⟩ ⟨false, 0⟩ ∧ (0 ≤ r0 ∧ r0 ≤ 18446744073709551615) ∧ (0 ≤ r1 ∧ r1 ≤ 18446744073709551615) ∧ (¬ s.st = 0 → r0 = s.g) ∧ (s.st = 2 → r1 = s.v)
  else ∃ r0 r1, cs = tk sh s.hand ⟨1, s.j.a, s.j.b, col s.j, s.j.h⟩ s.st ⟨r0, r1, 0, 0, 0, 0, 0, 0⟩ ⟨false, 0⟩ ∧ (0 ≤ r0 ∧ r0 ≤ 18446744073709551615) ∧ (0 ≤ r1 ∧ r1 ≤ 18446744073709551615) ∧ (s.st = 1 → r0 = s.v) ∧ (s.st = 3 ∨ s.st = 4 → r1 = s.g)
def repS (sh : Shp) : List Value → ShS → Prop := fun cs s => Wf sh s ∧ s.told = ⟨false, 0⟩ ∧ rTk sh s cs
theorem rep_init {sh : Shp} (k : Int) {j : Jb} (hw : j.wf) {c : Int} (h : (j.kind = 2) ∨ (¬ j.kind = 2 ∧ c = col j)) : repS sh (tk sh k ⟨if j.kind = 2 then 2 else 1, j.a, j.b, c, j.h⟩ 0 .zero ⟨false, 0⟩) (sinit k j) := by
  refine ⟨wf_init sh k hw, rfl, ?_⟩
  have z : (0 : Int) ≤ 0 ∧ (0 : Int) ≤ 18446744073709551615 := by omega
  unfold rTk
  rcases h with h | ⟨h, rfl⟩
  · have h' : (sinit k j).j.kind = 2 := h
    rw [if_pos h', if_pos h]
    exact ⟨c, 0, 0, rfl, z, z, fun h => absurd rfl h, fun h => absurd h (by simp [sinit])⟩
  · have h' : ¬ (sinit k j).j.kind = 2 := h
    rw [if_neg h', if_neg h]
    exact ⟨0, 0, rfl, z, z, fun h => absurd h (by simp [sinit]), fun h => absurd h (by simp [sinit])⟩
theorem rstart_any {sh : Shp} (h5 : Shape.R5 sh.a sh.b sh.c sh.d sh.e) (k : Int) (j : Jb) (hw : j.wf) : ∃ cs, IsTk cs ∧ (serr false k j = 0 → repS sh cs (sinit k j)) ∧ ∀ w : World, Calls Tryz.prog 54 #[sh.val, .int .i64 k, j.val, kept0] w fun e w' => e = .returned (.tuple #[.agg cs.toArray, .int .i64 (serr false k j)]) ∧ Below w.heap.size w w' := by
  obtain ⟨s0, s1, s2, s3, s4, s5⟩ := sh
  simp only at h5
  obtain ⟨kind, a, b, c, hh⟩ := j
  by_cases k2 : kind = 2
  · subst k2
    have he : serr false k ⟨2, a, b, c, hh⟩ = 0 := by simp [serr]
    rw [he]
    exact ⟨_, tk_is ⟨s0, s1, s2, s3, s4, s5⟩ k ⟨2, a, b, c, hh⟩ 0 .zero ⟨false, 0⟩, fun _ => rep_init (sh := ⟨s0, s1, s2, s3, s4, s5⟩) k (j := ⟨2, a, b, c, hh⟩) hw (.inl rfl), fun w => rstart_ok w s0 s1 s2 s3 s4 s5 k 2 a b c hh h5 (.inr (.inr rfl))⟩
  · by_cases k1 : kind = 1
    · subst k1
      by_cases hc : c = 0 ∨ c = 1
      · have he : serr false k ⟨1, a, b, c, hh⟩ = 0 := by simp [serr, hc]
        rw [he]
        have e := rep_init (sh := ⟨s0, s1, s2, s3, s4, s5⟩) k (j := ⟨1, a, b, c, hh⟩) (c := c) hw (.inr ⟨by simp, by show c = c % 2; omega⟩)
        exact ⟨_, tk_is ⟨s0, s1, s2, s3, s4, s5⟩ k ⟨1, a, b, c, hh⟩ 0 .zero ⟨false, 0⟩, fun _ => e, fun w => rstart_ok w s0 s1 s2 s3 s4 s5 k 1 a b c hh h5 (hc.elim (fun h => .inl ⟨rfl, h⟩) (fun h => .inr (.inl ⟨rfl, h⟩)))⟩
      · have he : serr false k ⟨1, a, b, c, hh⟩ = 2 := by simp [serr, hc]
        rw [he]
        exact ⟨tk0, tk0_is, fun h => absurd h (by decide), fun w => rstart_arg w s0 s1 s2 s3 s4 s5 k 1 a b c hh h5 rfl (by omega) (by omega)⟩
    · have he : serr false k ⟨kind, a, b, c, hh⟩ = 200 := by simp [serr, k1, k2]
      rw [he]
      exact ⟨tk0, tk0_is, fun h => absurd h (by decide), fun w => rstart_kind w s0 s1 s2 s3 s4 s5 k kind a b c hh h5 k1 k2⟩
theorem tk_kept (sh : Shp) (hand : Int) (j : Jb) (st : Int) (r : Rg) (a : Ans) (q : Nat) (hq : q < 4) : (tk sh hand j st r a)[24 + q]? = some (.int .u64 0) := by
  match q, hq with
  | 0, _ | 1, _ | 2, _ | 3, _ => rfl
set_option maxHeartbeats 4000000 in
theorem rstep_any {any : Bool} {sh : Shp} (h5 : Shape.R5 sh.a sh.b sh.c sh.d sh.e) (cs : List Value) (s : ShS) (hcs : IsTk cs) (hrep : repS sh cs s) (n : Nat) (f : Nat → Int) (hf : ∀ i, i < n → 0 ≤ f i ∧ f i ≤ 18446744073709551615) :
    ∃ cs', IsTk cs' ∧ (¬ sends sh s (stepOf n f (sreq sh s)) = true → repS sh cs' (snext sh s (stepOf n f (sreq sh s)))) ∧
    (sends sh s (stepOf n f (sreq sh s)) = true → cs'[22]? = some (.bool (snext sh s (stepOf n f (sreq sh s))).told.ok) ∧ cs'[23]? = some (.int .u64 (snext sh s (stepOf n f (sreq sh s))).told.val)) ∧ (∀ q, q < 4 → cs'[24 + q]? = some (.int .u64 0)) ∧
    ∀ (w : World) (g cap : Nat), IsRow w g n cap f → Calls Tryz.prog 35 #[.agg cs.toArray, .slice (some ⟨g, 0, none⟩) n cap] w fun e w' => e = .returned (.tuple #[.agg cs'.toArray, (stepOf n f (sreq sh s)).val, .bool (sends sh s (stepOf n f (sreq sh s)))]) ∧ IsRow w' g n cap (wordsOf n f (sreq sh s)) ∧ w.grownBy w' (some g) := by
  obtain ⟨H, htold, hrep⟩ := hrep
  have hxh := had_bounds hf (sreq sh s)
  obtain ⟨x, hx⟩ : ∃ x, stepOf n f (sreq sh s) = x := ⟨_, rfl⟩
  obtain ⟨f', hf'⟩ : ∃ f', wordsOf n f (sreq sh s) = f' := ⟨_, rfl⟩
  rw [hx] at hxh
  rw [hx, hf']
  have Hn : ¬ sends sh s x = true → Wf sh (snext sh s x) := fun h => snext_wf H hxh h
  obtain ⟨hst, hh, hg, hv, hxi, hxb⟩ := H
  obtain ⟨hand, j, st, gg, v, xi, xl, xb, told⟩ := s
  simp only at hst hh hg hv hxi hxb htold hx hf'
  subst htold
  unfold rTk at hrep
  simp only at hrep
  rcases hst with ⟨hk, hst⟩ | ⟨hk, hst⟩
  · rw [if_pos hk] at hrep
    obtain ⟨c, r0, r1, rfl, b0, b1, e0, e1⟩ := hrep
    rcases hst with rfl | rfl | rfl
    · have er : sreq sh ⟨hand, j, 0, gg, v, xi, xl, xb, ⟨false, 0⟩⟩ = ⟨hand, 1, 2, 0, 0, true⟩ := by simp [sreq, hk]
      rw [er] at hx hf'
      obtain ⟨en, hen⟩ : ∃ en, sends sh ⟨hand, j, 0, gg, v, xi, xl, xb, ⟨false, 0⟩⟩ x = en := ⟨_, rfl⟩
      have hen' : decide (headAt sh (idx x.had) < 0) = en := by
        rw [← hen]
        simp only [sends, hk, if_true]
        rcases head_cases h5 (idx x.had) with ⟨a1, a2, a3, a4⟩ | ⟨a1, a2, a3⟩
        · rw [decide_eq_true a1, decide_eq_false (by omega)]; rfl
        · rw [decide_eq_false a1, decide_eq_true (by omega)]; rfl
      rw [hen] at Hn ⊢
      refine ⟨_, tk_is sh hand ⟨2, j.a, j.b, c, j.h⟩ 1 ⟨x.had, r1, 0, 0, 0, 0, 0, 0⟩ ⟨false, 0⟩, fun h => ⟨Hn h, ?_, ?_⟩, fun h => ?_, fun q hq => tk_kept _ _ _ _ _ _ q hq, fun w g cap hr => rstep2 (tk_is _ _ _ _ _ _) (tk_is _ _ _ _ _ _) rfl hr (fun w1 r1' => rp0_any r1' h5 b0 hxh hen' hx hf')⟩
      · have ht : there sh (idx x.had) := by rw [← hen] at h; simpa [sends, hk] using h
        simp [snext, hk, ht]
      · have ht : there sh (idx x.had) := by rw [← hen] at h; simpa [sends, hk] using h
        unfold rTk
        rw [if_pos (by rw [snext_j]; exact hk)]
        simp only [snext, hk, ht, if_true]
        exact ⟨c, x.had, r1, rfl, hxh, b1, fun _ => rfl, fun h => absurd h (by decide)⟩
      · have ht : ¬ there sh (idx x.had) := by rw [← hen] at h; simpa [sends, hk] using h
        simp [snext, hk, ht, tk]
    · have er : sreq sh ⟨hand, j, 1, gg, v, xi, xl, xb, ⟨false, 0⟩⟩ = ⟨hand, 1, xl, 0, 0, true⟩ := by simp [sreq, hk]
      have hr0 := e0 (by decide)
      subst hr0
      obtain ⟨x1, x2, x3⟩ := hxi hk (by decide)
      rw [er, x3] at hx hf'
      have e1' : sends sh ⟨hand, j, 1, r0, v, xi, xl, xb, ⟨false, 0⟩⟩ x = false := by simp [sends, hk]
      rw [e1'] at Hn ⊢
      refine ⟨_, tk_is sh hand ⟨2, j.a, j.b, c, j.h⟩ 2 ⟨r0, x.had, 0, 0, 0, 0, 0, 0⟩ ⟨false, 0⟩, fun h => ⟨Hn h, ?_, ?_⟩, fun h => absurd h (by decide), fun q hq => tk_kept _ _ _ _ _ _ q hq, fun w g cap hr => rstep2 (tk_is _ _ _ _ _ _) (tk_is _ _ _ _ _ _) rfl hr (fun w1 r1' => rp1_any r1' h5 b0 hx hf')⟩
      · simp [snext, hk]
      · unfold rTk
        rw [if_pos (by rw [snext_j]; exact hk)]
        simp only [snext, hk, if_true, if_neg (show ¬ (1 : Int) = 0 by decide)]
        exact ⟨c, r0, x.had, rfl, b0, hxh, fun _ => rfl, fun _ => rfl⟩
    · have er : sreq sh ⟨hand, j, 2, gg, v, xi, xl, xb, ⟨false, 0⟩⟩ = ⟨hand, 5, 2, gg, bmp gg xb, true⟩ := by simp [sreq, hk]
      have hr0 := e0 (by decide)
      have hr1 := e1 rfl
      subst hr0 hr1
      have x4 := hxb hk rfl
      obtain ⟨x1, x2, x3⟩ := hxi hk (by decide)
      rw [er, x4] at hx hf'
      have e1' : sends sh ⟨hand, j, 2, r0, r1, xi, xl, xb, ⟨false, 0⟩⟩ x = x.ok := by simp [sends, hk]
      rw [e1'] at Hn ⊢
      cases hok : x.ok with
      | true =>
        rw [hok] at Hn
        refine ⟨_, tk_is sh hand ⟨2, j.a, j.b, c, j.h⟩ 0 ⟨r0, r1, 0, 0, 0, 0, 0, 0⟩ ⟨true, idx r0⟩, fun h => absurd rfl h, fun h => ?_, fun q hq => tk_kept _ _ _ _ _ _ q hq, fun w g cap hr => rstep2 (tk_is _ _ _ _ _ _) (tk_is _ _ _ _ _ _) rfl hr (fun w1 r1' => (rp2_yes r1' h5 b0 b1 hok hx hf').mono (fun e w' h => ⟨h.1.trans (by rw [hok]), h.2⟩))⟩
        simp [snext, hk, hok, tk, x1]
      | false =>
        rw [hok] at Hn
        refine ⟨_, tk_is sh hand ⟨2, j.a, j.b, c, j.h⟩ 0 ⟨r0, r1, 0, 0, 0, 0, 0, 0⟩ ⟨false, 0⟩, fun h => ⟨Hn h, ?_, ?_⟩, fun h => absurd h (by decide), fun q hq => tk_kept _ _ _ _ _ _ q hq, fun w g cap hr => rstep2 (tk_is _ _ _ _ _ _) (tk_is _ _ _ _ _ _) rfl hr (fun w1 r1' => (rp2_no r1' h5 b0 b1 hok hx hf').mono (fun e w' h => ⟨h.1.trans (by rw [hok]), h.2⟩))⟩
        · simp [snext, hk, hok]
        · unfold rTk
          rw [if_pos (by rw [snext_j]; exact hk)]
          simp only [snext, hk, hok, if_true, if_neg (show ¬ (2 : Int) = 0 by decide), if_neg (show ¬ (2 : Int) = 1 by decide), if_neg (show ¬ false = true by decide)]
          exact ⟨c, r0, r1, rfl, b0, b1, fun h => (h (by simp)).elim, fun h => absurd h (by decide)⟩
  · rw [if_neg hk] at hrep
    obtain ⟨r0, r1, rfl, b0, b1, e0, e1⟩ := hrep
    have hw : 0 ≤ j.h ∧ j.h ≤ 18446744073709551615 := hh
    rcases hst with rfl | rfl | rfl | rfl | rfl
    · have er : sreq sh ⟨hand, j, 0, gg, v, xi, xl, xb, ⟨false, 0⟩⟩ = ⟨hand, 1, headAt sh (idx j.h), 0, 0, true⟩ := by simp [sreq, hk]
      rw [er] at hx hf'
      obtain ⟨wh, hwh⟩ : ∃ wh, whiteB x.had (j.h / 4294967296) (col j) = wh := ⟨_, rfl⟩
      have hen : sends sh ⟨hand, j, 0, gg, v, xi, xl, xb, ⟨false, 0⟩⟩ x = !wh := by simp [sends, hk, hwh]
      rw [hen] at Hn ⊢
      refine ⟨_, tk_is sh hand ⟨1, j.a, j.b, col j, j.h⟩ 1 ⟨x.had, r1, 0, 0, 0, 0, 0, 0⟩ ⟨false, 0⟩, fun h => ⟨Hn h, ?_, ?_⟩, fun h => ?_, fun q hq => tk_kept _ _ _ _ _ _ q hq, fun w g cap hr => rm0_any hr h5 hw hxh hwh rfl hx hf'⟩
      · have ht : wh = true := by simpa using h
        simp [snext, hk, hwh, ht]
      · have ht : wh = true := by simpa using h
        unfold rTk
        rw [if_neg (by rw [snext_j]; exact hk)]
        simp only [snext, hk, hwh, ht, if_true, if_false]
        exact ⟨x.had, r1, rfl, hxh, b1, fun _ => rfl, fun h => absurd h (by decide)⟩
      · have ht : wh = false := by simpa using h
        simp [snext, hk, hwh, ht, tk]
    · have er : sreq sh ⟨hand, j, 1, gg, v, xi, xl, xb, ⟨false, 0⟩⟩ = ⟨hand, 5, headAt sh (idx j.h), v, xr v, true⟩ := by simp [sreq, hk]
      have hr0 := e0 rfl
      subst hr0
      rw [er] at hx hf'
      have e1' : sends sh ⟨hand, j, 1, gg, r0, xi, xl, xb, ⟨false, 0⟩⟩ x = false := by simp [sends, hk]
      rw [e1'] at Hn ⊢
      cases hok : x.ok with
      | true =>
        refine ⟨_, tk_is sh hand ⟨1, j.a, j.b, col j, j.h⟩ 2 ⟨r0, r1, 0, 0, 0, 0, 0, 0⟩ ⟨false, 0⟩, fun h => ⟨Hn h, ?_, ?_⟩, fun h => absurd h (by decide), fun q hq => tk_kept _ _ _ _ _ _ q hq, fun w g cap hr => rm1_yes hr h5 hw b0 hok hx hf'⟩
        · simp [snext, hk, hok]
        · unfold rTk
          rw [if_neg (by rw [snext_j]; exact hk)]
          simp only [snext, hk, hok, if_true, if_false, if_neg (show ¬ (1 : Int) = 0 by decide)]
          exact ⟨r0, r1, rfl, b0, b1, fun h => absurd h (by decide), fun h => absurd h (by decide)⟩
      | false =>
        refine ⟨_, tk_is sh hand ⟨1, j.a, j.b, col j, j.h⟩ 0 ⟨r0, r1, 0, 0, 0, 0, 0, 0⟩ ⟨false, 0⟩, fun h => ⟨Hn h, ?_, ?_⟩, fun h => absurd h (by decide), fun q hq => tk_kept _ _ _ _ _ _ q hq, fun w g cap hr => rm1_no hr h5 hw b0 hok hx hf'⟩
        · simp [snext, hk, hok]
        · unfold rTk
          rw [if_neg (by rw [snext_j]; exact hk)]
          simp only [snext, hk, hok, if_true, if_false, if_neg (show ¬ (1 : Int) = 0 by decide), if_neg (show ¬ false = true by decide)]
          exact ⟨r0, r1, rfl, b0, b1, fun h => absurd h (by decide), fun h => absurd h (by decide)⟩
    · have er : sreq sh ⟨hand, j, 2, gg, v, xi, xl, xb, ⟨false, 0⟩⟩ = ⟨hand, 1, 2, 0, 0, true⟩ := by simp [sreq, hk]
      rw [er] at hx hf'
      have e1' : sends sh ⟨hand, j, 2, gg, v, xi, xl, xb, ⟨false, 0⟩⟩ x = false := by simp [sends, hk]
      rw [e1'] at Hn ⊢
      refine ⟨_, tk_is sh hand ⟨1, j.a, j.b, col j, j.h⟩ 3 ⟨r0, x.had, 0, 0, 0, 0, 0, 0⟩ ⟨false, 0⟩, fun h => ⟨Hn h, ?_, ?_⟩, fun h => absurd h (by decide), fun q hq => tk_kept _ _ _ _ _ _ q hq, fun w g cap hr => rm2_any hr h5 hw hx hf'⟩
      · simp [snext, hk]
      · unfold rTk
        rw [if_neg (by rw [snext_j]; exact hk)]
        simp only [snext, hk, if_true, if_false, if_neg (show ¬ (2 : Int) = 0 by decide), if_neg (show ¬ (2 : Int) = 1 by decide)]
        exact ⟨r0, x.had, rfl, b0, hxh, fun h => absurd h (by decide), fun _ => rfl⟩
    · have er : sreq sh ⟨hand, j, 3, gg, v, xi, xl, xb, ⟨false, 0⟩⟩ = ⟨hand, 2, linkAt sh (idx j.h), 0, idx gg, true⟩ := by simp [sreq, hk]
      have hr1 := e1 (.inl rfl)
      subst hr1
      rw [er] at hx hf'
      have e1' : sends sh ⟨hand, j, 3, r1, v, xi, xl, xb, ⟨false, 0⟩⟩ x = false := by simp [sends, hk]
      rw [e1'] at Hn ⊢
      refine ⟨_, tk_is sh hand ⟨1, j.a, j.b, col j, j.h⟩ 4 ⟨r0, r1, 0, 0, 0, 0, 0, 0⟩ ⟨false, 0⟩, fun h => ⟨Hn h, ?_, ?_⟩, fun h => absurd h (by decide), fun q hq => tk_kept _ _ _ _ _ _ q hq, fun w g cap hr => rm3_any hr h5 hw b1 hx hf'⟩
      · simp [snext, hk]
      · unfold rTk
        rw [if_neg (by rw [snext_j]; exact hk)]
        simp only [snext, hk, if_true, if_false, if_neg (show ¬ (3 : Int) = 0 by decide), if_neg (show ¬ (3 : Int) = 1 by decide), if_neg (show ¬ (3 : Int) = 2 by decide)]
        exact ⟨r0, r1, rfl, b0, b1, fun h => absurd h (by decide), fun _ => rfl⟩
    · have er : sreq sh ⟨hand, j, 4, gg, v, xi, xl, xb, ⟨false, 0⟩⟩ = ⟨hand, 5, 2, gg, bmp gg (idx j.h), true⟩ := by simp [sreq, hk]
      have hr1 := e1 (.inr rfl)
      subst hr1
      rw [er] at hx hf'
      have e1' : sends sh ⟨hand, j, 4, r1, v, xi, xl, xb, ⟨false, 0⟩⟩ x = x.ok := by simp [sends, hk]
      rw [e1'] at Hn ⊢
      cases hok : x.ok with
      | true =>
        rw [hok] at Hn
        refine ⟨_, tk_is sh hand ⟨1, j.a, j.b, col j, j.h⟩ 2 ⟨r0, r1, 0, 0, 0, 0, 0, 0⟩ ⟨true, idx j.h⟩, fun h => absurd rfl h, fun h => ?_, fun q hq => tk_kept _ _ _ _ _ _ q hq, fun w g cap hr => (rm4_yes hr h5 hw b1 hok hx hf').mono (fun e w' h => ⟨h.1.trans (by rw [hok]), h.2⟩)⟩
        simp [snext, hk, hok, tk]
      | false =>
        rw [hok] at Hn
        refine ⟨_, tk_is sh hand ⟨1, j.a, j.b, col j, j.h⟩ 2 ⟨r0, r1, 0, 0, 0, 0, 0, 0⟩ ⟨false, 0⟩, fun h => ⟨Hn h, ?_, ?_⟩, fun h => absurd h (by decide), fun q hq => tk_kept _ _ _ _ _ _ q hq, fun w g cap hr => (rm4_no hr h5 hw b1 hok hx hf').mono (fun e w' h => ⟨h.1.trans (by rw [hok]), h.2⟩)⟩
        · simp [snext, hk, hok]
        · unfold rTk
          rw [if_neg (by rw [snext_j]; exact hk)]
          simp only [snext, hk, hok, if_false, if_neg (show ¬ (4 : Int) = 0 by decide), if_neg (show ¬ (4 : Int) = 1 by decide), if_neg (show ¬ (4 : Int) = 2 by decide), if_neg (show ¬ (4 : Int) = 3 by decide), if_neg (show ¬ false = true by decide)]
          exact ⟨r0, r1, rfl, b0, b1, fun h => absurd h (by decide), fun h => absurd h (by decide)⟩
theorem rkind {sh : Shp} (h5 : Shape.R5 sh.a sh.b sh.c sh.d sh.e) : RKind (kShd false sh) (repS sh) sh 54 35 :=
  ⟨fun k j _ _ hw => rstart_any h5 k j hw, fun cs s hcs hrep n f hf => rstep_any (any := false) h5 cs s hcs hrep n f hf⟩
end Shd
end Go.Proofs.YtnodkeoikamonaaGreat
/-
  The statement's own reference of tasks of several steps: wrong.
-/
namespace Go.Proofs.YtnodkeoikamonaaGreat
namespace L16
open Go.RowKit
set_option linter.unusedVariables false
set_option linter.unusedSimpArgs false
set_option linter.unnecessarySimpa false
set_option maxRecDepth 20000
variable {K : Kd} {rep : List Value → K.σ → Prop} {sh : Shp} {w : World} {aoh aos : Option Addr} {caph caps : Nat} {P : Par} {most : Int}
theorem build77 {ev : Operand → Value} {o : Oper} {w : World} (ho : o.op = .build 83 #[]) : (execOp ev o).run Tryz.prog w = .ok (.value (.agg #[.int .u64 0, .int .u64 0, .int .u64 0, .int .u64 0])) w := by
  simp [execOp, ho, go_sem]
theorem callStartW (args : Array Value) (w : World) : (callFunc 54 args).run Tryz.prog w = .ok (.enter 54 args) w := by
  simp [go_sem]
set_option maxHeartbeats 8000000 in
theorem wrong_fine (RK : RKind K rep sh 54 35) (hjw : ∀ h, h < P.nh → ∀ j, j < P.jn h → (P.jb h j).wf) (SH : SeesH w w.heap.size aoh P.nh P.jn P.jb) (hl : ¬ LongHands P.nh P.jn) (hs : P.ns ≤ 65536) (hm0 : 0 ≤ most) (hm : most ≤ 65536) :
    Calls Tryz.prog 53 #[sh.val, .slice aoh P.nh caph, .slice aos P.ns caps, .int .i64 most] w fun e w' => Below w.heap.size w w' ∧ ((AllOk K P ∧ e = .returned (.int .i64 0)) ∨ ∃ er, FirstErr K P er ∧ e = .returned (.int .i64 er)) := by
  have hnh : P.nh ≤ 8 := by rcases Nat.lt_or_ge 8 P.nh with l | l; exact absurd (.inl l) hl; exact l
  have hjn : ∀ i, i < P.nh → P.jn i ≤ 256 := fun i hi => by rcases Nat.lt_or_ge 256 (P.jn i) with l | l; exact absurd (.inr ⟨i, hi, l⟩) hl; exact l
  have HSH := hide SH
  have HRK := hide RK
  have HJW := hide hjw
  have HL := hide hl
  have HJN := hide hjn
  obtain ⟨W1, hW1⟩ : ∃ W1, w.alloc (.cells #[.int .i64 sh.a, .int .i64 sh.b, .int .i64 sh.c, .int .i64 sh.d, .int .i64 sh.e, .int .i64 sh.f] 23) = W1 := ⟨_, rfl⟩
  have b1 : Below w.heap.size w W1 := by rw [← hW1]; exact (Below.refl _ w).alloc (Nat.le_refl _) _
  have sz1 : W1.heap.size = w.heap.size + 1 := by rw [← hW1]; simp
  have R1 := hide (show W1.rangeAt w.heap.size 0 [Value.int .i64 sh.a, .int .i64 sh.b, .int .i64 sh.c, .int .i64 sh.d, .int .i64 sh.e, .int .i64 sh.f] from by rw [← hW1]; exact rowIs.range (rowL_alloc w [Value.int .i64 sh.a, .int .i64 sh.b, .int .i64 sh.c, .int .i64 sh.d, .int .i64 sh.e, .int .i64 sh.f] 23 (n := 6) rfl) rfl)
  have BW := hide b1
  clear SH RK hjw hl hjn b1
  simp only [Shp.val]
  go_enter Tryz.func53, Tryz.ntmps53
  go_wp2_with (go_at_call 59; refine (fits_fine (HSH.out.below BW.out (Nat.le_refl _)) HL.out hs most hm 0 (.inl ⟨hm0, rfl⟩)).mono ?_; rintro e w' ⟨rfl, hw⟩; obtain rfl := hw.symm)
  go_loopw [9, 10] (fun e i wr => ∃ (k : Nat) (er : Int), k ≤ P.nh ∧ i = .int .i64 k ∧ Below W1.heap.size W1 wr ∧ e = .int .i64 er ∧ ((er = 0 ∧ ∀ h, h < k → ∀ j, j < P.jn h → K.err h (P.jb h j) = 0) ∨ FirstErr K P er)) (fun _ i _ => P.nh - (intOf i).toNat)
  case atStart => exact ⟨0, 0, Nat.zero_le _, rfl, Below.refl _ _, rfl, .inl ⟨rfl, fun h hh => absurd hh (Nat.not_lt_zero h)⟩⟩
  case round =>
    obtain ⟨wo, rfl⟩ : ∃ x, x = wr := ⟨_, rfl⟩
    obtain ⟨k, er, hk, rfl, hb, rfl, hcase⟩ := hrel
    have HB := hide hb
    clear hb
    rcases hcase with ⟨rfl, hall⟩ | hfe
    · have HALL := hide hall
      clear hall
      by_cases hlt : k < P.nh
      · have hkn : (k : Int) < (P.nh : Int) := by omega
        obtain ⟨b, off, ao', cap', hao, hbl, hcc, hjj⟩ := (HSH.out.below (BW.out.trans (HB.out.mono (by omega))) (Nat.le_refl _)) k hlt
        subst hao
        have hjk := HJN.out k hlt
        have HJJ := hide hjj
        clear hjj
        go_wp2_with fail
        go_loopw [9, 11] (fun e i wr => ∃ (q : Nat) (er : Int), q ≤ P.jn k ∧ i = .int .i64 q ∧ Below W1.heap.size W1 wr ∧ e = .int .i64 er ∧ ((er = 0 ∧ ∀ j, j < q → K.err k (P.jb k j) = 0) ∨ (FirstErr K P er ∧ ¬ er = 0))) (fun _ i _ => P.jn k - (intOf i).toNat)
        case atStart => exact ⟨0, 0, Nat.zero_le _, rfl, HB.out, rfl, .inl ⟨rfl, fun j hj => absurd hj (Nat.not_lt_zero j)⟩⟩
        case round =>
          obtain ⟨q, er, hq, rfl, hb2, rfl, hcase2⟩ := hrel
          have HB2' := hide hb2
          have hccr := (hb2.cell (p := ⟨b, off + k, none⟩) (by show b < _; omega)).trans ((HB.out.cell (p := ⟨b, off + k, none⟩) (by show b < _; omega)).symm.trans hcc)
          rcases hcase2 with ⟨rfl, hall2⟩ | ⟨hfe2, hne2⟩
          · have HALL2 := hide hall2
            clear hall2
            by_cases hlq : q < P.jn k
            · have hqn : (q : Int) < (P.jn k : Int) := by omega
              obtain ⟨b', off', hao', hbl', hc'⟩ := HJJ.out q hlq
              subst hao'
              obtain ⟨cs, hcs1, hcs2, hcs⟩ := HRK.out.start k (P.jb k q) (by omega) (by omega) (HJW.out k hlt q hlq)
              have ST := hide hcs
              obtain ⟨ev, hev⟩ : ∃ ev, K.err k (P.jb k q) = ev := ⟨_, rfl⟩
              rw [hev] at ST
              have HEV := hide hev
              have lwr : W1.heap.size ≤ wr.heap.size := hb2.size
              obtain ⟨jb, hjb⟩ : ∃ jb, P.jb k q = jb := ⟨_, rfl⟩
              rw [hjb] at hc' ST
              obtain ⟨jk, ja, jbb, jc, jh⟩ := jb
              simp only [Shp.val, Jb.val, kept0] at ST
              have W0 : Below wr.heap.size wr wr.drew ∧ wr.rangeAt w.heap.size 0 [Value.int .i64 sh.a, .int .i64 sh.b, .int .i64 sh.c, .int .i64 sh.d, .int .i64 sh.e, .int .i64 sh.f] ∧ wr.cell? ⟨b, off + k * 1, none⟩ = some (.slice (some ⟨b', off', none⟩) (P.jn k) cap') ∧ wr.rangeAt b' (off' + q * 5) [.int .i64 jk, .int .i64 ja, .int .i64 jbb, .int .i64 jc, .int .u64 jh] := by
                refine ⟨(Below.refl _ _).drew, rangeAt_block R1.out (hb2.block _ (by omega)), by rw [Nat.mul_one]; exact hccr, fun j v hv => ?_⟩
                have hj : j < 5 := (List.getElem?_eq_some_iff.1 hv).1
                rw [show wr.cell? ⟨b', off' + q * 5 + j, none⟩ = wo.cell? ⟨b', off' + q * 5 + j, none⟩ from (hb2.cell (p := ⟨b', off' + q * 5 + j, none⟩) (by show b' < _; omega)).trans (HB.out.cell (p := ⟨b', off' + q * 5 + j, none⟩) (by show b' < _; omega)).symm, hc' j hj]
                match j, hj with
                | 0, _ | 1, _ | 2, _ | 3, _ | 4, _ => exact congrArg some (Option.some.inj hv)
              have HW0 := hide W0
              obtain ⟨dJ, hdJ⟩ := row54
              obtain ⟨dS, hdS⟩ := row42
              have DJ := hide hdJ
              have DS := hide hdS
              clear W0 hcs hcs1 hcs2 hev hjb hc' hb2 hdJ hdS
              go_wp2_with fail
              ·
                refine Reg.region (t := (⟨[(0, 40), (1, 41), (2, 42), (3, 43), (4, 44), (5, 45), (6, 46), (7, 47), (8, 48), (9, 49), (11, 39), (12, 51), (13, 52), (14, 9)],
                    fun i => match i with
                      | 0 => .agg #[.int .i64 sh.a, .int .i64 sh.b, .int .i64 sh.c, .int .i64 sh.d, .int .i64 sh.e, .int .i64 sh.f]
                      | 2 => .slice (some ⟨b, off, none⟩) P.nh caph
                      | 4 => .pointer (some ⟨b, off + k * 1, none⟩)
                      | 5 => .slice (some ⟨b', off', none⟩) (P.jn k) cap'
                      | 6 => .int .i64 (q : Int)
                      | 7 => .pointer (some ⟨b', off' + q * 5, none⟩)
                      | 8 => .agg #[.int .i64 jk, .int .i64 ja, .int .i64 jbb, .int .i64 jc, .int .u64 jh]
                      | 9 => .agg #[.int .u64 0, .int .u64 0, .int .u64 0, .int .u64 0]
                      | 11 => .tuple #[.agg cs.toArray, .int .i64 ev]
                      | 12 => .agg cs.toArray
                      | 13 => .int .i64 ev
                      | 14 => .int .i64 ev
                      | _ => .int .i64 (k : Int),
                    10, 50, .tuple #[.agg cs.toArray, .int .i64 ev], [], fun _ => (3, []), [], fun _ => []⟩ : Reg.TabL).tab)
                  (WI := fun _ w' => Below wr.heap.size wr w' ∧ w'.rangeAt w.heap.size 0 [Value.int .i64 sh.a, .int .i64 sh.b, .int .i64 sh.c, .int .i64 sh.d, .int .i64 sh.e, .int .i64 sh.f] ∧ w'.cell? ⟨b, off + k * 1, none⟩ = some (.slice (some ⟨b', off', none⟩) (P.jn k) cap') ∧ w'.rangeAt b' (off' + q * 5) [.int .i64 jk, .int .i64 ja, .int .i64 jbb, .int .i64 jc, .int .u64 jh])
                  (gw := w.heap.size) (by kernel_rfl) (Reg.TabL.ok _ rfl (fun i j hm => by simp at hm)) ?g8 ?b8 (by omega) ?alo ?sto ?dd HW0.out ?kinds ?fin
                case g8 =>
                  intro i o ho
                  have hi : i < 15 := by have := (Array.getElem?_eq_some_iff.1 ho).1; simpa using this
                  match i, hi with
                  | 0, _ | 1, _ | 2, _ | 3, _ | 4, _ | 5, _ | 6, _ | 7, _ | 8, _ | 9, _ | 10, _ | 11, _ | 12, _ | 13, _ | 14, _ => injection ho with ho; subst ho; rfl
                case b8 =>
                  intro i o ho
                  have hi : i < 15 := by have := (Array.getElem?_eq_some_iff.1 ho).1; simpa using this
                  match i, hi with
                  | 0, _ | 1, _ | 2, _ | 3, _ | 4, _ | 5, _ | 6, _ | 7, _ | 8, _ | 9, _ | 10, _ | 11, _ | 12, _ | 13, _ | 14, _ => injection ho with ho; subst ho; simp [Region.binds]
                case alo =>
                  rintro _ w' o ⟨h0, h1, h2, h3⟩
                  exact ⟨h0.alloc h0.size _, World.rangeAt_alloc h1 o, (World.cell?_alloc_lt _ _ _ (World.block_lt_of_cell? _ _ h2)).trans h2, World.rangeAt_alloc h3 o⟩
                case sto =>
                  rintro _ w' x vs ⟨h0, h1, h2, h3⟩ hk
                  have tt := touch_setCells x vs 0 w'
                  exact ⟨h0.trans (tt.below (fun y hy => by omega) h0.size), rangeAt_block h1 (tt.block _ (World.block_lt_of_cell? _ _ (h1 0 _ rfl)) (by show w.heap.size ≠ x; omega)), (World.cell?_of_block (a := ⟨b, off + k * 1, none⟩) (tt.block _ (World.block_lt_of_cell? _ _ h2) (by show b ≠ x; omega))).trans h2, rangeAt_block h3 (tt.block _ (World.block_lt_of_cell? _ _ (h3 0 _ rfl)) (by show b' ≠ x; omega))⟩
                case dd =>
                  intro x hx
                  have hx' : x < 54 := by
                    simp [Reg.TabL.tab] at hx
                    omega
                  simpa using hx'
                case kinds =>
                  have hWb : ∀ w1 w2 : World, (Below wr.heap.size wr w1 ∧ w1.rangeAt w.heap.size 0 [Value.int .i64 sh.a, .int .i64 sh.b, .int .i64 sh.c, .int .i64 sh.d, .int .i64 sh.e, .int .i64 sh.f] ∧ w1.cell? ⟨b, off + k * 1, none⟩ = some (.slice (some ⟨b', off', none⟩) (P.jn k) cap') ∧ w1.rangeAt b' (off' + q * 5) [.int .i64 jk, .int .i64 ja, .int .i64 jbb, .int .i64 jc, .int .u64 jh]) → Below w1.heap.size w1 w2 → (Below wr.heap.size wr w2 ∧ w2.rangeAt w.heap.size 0 [Value.int .i64 sh.a, .int .i64 sh.b, .int .i64 sh.c, .int .i64 sh.d, .int .i64 sh.e, .int .i64 sh.f] ∧ w2.cell? ⟨b, off + k * 1, none⟩ = some (.slice (some ⟨b', off', none⟩) (P.jn k) cap') ∧ w2.rangeAt b' (off' + q * 5) [.int .i64 jk, .int .i64 ja, .int .i64 jbb, .int .i64 jc, .int .u64 jh]) := by
                    rintro w1 w2 ⟨h0, h1, h2, h3⟩ hb
                    exact ⟨h0.trans (hb.mono h0.size), rangeAt_block h1 (hb.block _ (World.block_lt_of_cell? _ _ (h1 0 _ rfl))), (hb.cell (p := ⟨b, off + k * 1, none⟩) (World.block_lt_of_cell? _ _ h2)).trans h2, rangeAt_block h3 (hb.block _ (World.block_lt_of_cell? _ _ (h3 0 _ rfl)))⟩
                  intro i o ho
                  have hi : i < 15 := by have := (Array.getElem?_eq_some_iff.1 ho).1; simpa using this
                  match i, hi with
                  | 0, _ => injection ho with ho; subst ho; exact .inl ⟨40, _, rfl, rfl, fun L a w' bk hI hd => ex_load_row rfl (hI.fix 4 (Reg.notD rfl)) hI.world.2.1 DS.out.1 DS.out.2 size42⟩
                  | 1, _ => injection ho with ho; subst ho; exact .inl ⟨41, _, rfl, rfl, fun L a w' bk hI hd => ex_move rfl (hI.fix 10 (Reg.notD rfl))⟩
                  | 2, _ => injection ho with ho; subst ho; exact .inl ⟨42, _, rfl, rfl, fun L a w' bk hI hd => ex_move rfl (hI.fix 1 (Reg.notD rfl))⟩
                  | 3, _ => injection ho with ho; subst ho; exact .inl ⟨43, _, rfl, rfl, fun L a w' bk hI hd => ex_move rfl (hI.fix 10 (Reg.notD rfl))⟩
                  | 4, _ => injection ho with ho; subst ho; exact .inl ⟨44, _, rfl, rfl, fun L a w' bk hI hd => ex_index rfl (hI.pure 2 _ _ rfl (hd ⟨2, .data⟩ (by simp) rfl)) (hI.pure 3 _ _ rfl (hd ⟨3, .data⟩ (by simp) rfl)) hlt Tryz.underlying25 sz52⟩
                  | 5, _ => injection ho with ho; subst ho; exact .inl ⟨45, _, rfl, rfl, fun L a w' bk hI hd => ex_load rfl (hI.pure 4 _ _ rfl (hd ⟨4, .data⟩ (by simp) rfl)) (agg_no w').2.2.1 hI.world.2.2.1⟩
                  | 6, _ => injection ho with ho; subst ho; exact .inl ⟨46, _, rfl, rfl, fun L a w' bk hI hd => ex_move rfl (hI.fix 11 (Reg.notD rfl))⟩
                  | 7, _ => injection ho with ho; subst ho; exact .inl ⟨47, _, rfl, rfl, fun L a w' bk hI hd => ex_index rfl (hI.pure 5 _ _ rfl (hd ⟨5, .data⟩ (by simp) rfl)) (hI.pure 6 _ _ rfl (hd ⟨6, .data⟩ (by simp) rfl)) hlq Tryz.underlying60 sz54⟩
                  | 8, _ => injection ho with ho; subst ho; exact .inl ⟨48, _, rfl, rfl, fun L a w' bk hI hd => ex_load_row rfl (hI.pure 7 _ _ rfl (hd ⟨7, .data⟩ (by simp) rfl)) hI.world.2.2.2 DJ.out.1 DJ.out.2 size54⟩
                  | 9, _ => injection ho with ho; subst ho; exact .inl ⟨49, _, rfl, rfl, fun L a w' bk hI hd => build77 rfl⟩
                  | 10, _ => injection ho with ho; subst ho; exact .inr (.inl ⟨rfl, rfl, fun L a w' bk K hI hL hd hk => wp_call (f := 54) (call4 rfl (hI.pure 0 _ _ rfl (hd ⟨0, .data⟩ (by simp) rfl)) (hI.pure 1 _ _ rfl (hd ⟨1, .data⟩ (by simp) rfl)) (hI.pure 8 _ _ rfl (hd ⟨8, .data⟩ (by simp) rfl)) (hI.pure 9 _ _ rfl (hd ⟨9, .data⟩ (by simp) rfl)) rfl (callStartW _ _)) ((ST.out w').mono (fun e w'' ⟨he, hb⟩ => ⟨_, he, hk w'' (hWb w' w'' hI.world hb) (Touch.of_below hb _)⟩))⟩)
                  | 11, _ => injection ho with ho; subst ho; exact .inl ⟨39, _, rfl, rfl, fun L a w' bk hI hd => ex_move rfl (hI.call (hd ⟨10, .data⟩ (by simp) rfl))⟩
                  | 12, _ => injection ho with ho; subst ho; exact .inl ⟨51, _, rfl, rfl, fun L a w' bk hI hd => ex_extract rfl (hI.pure 11 _ _ rfl (hd ⟨11, .data⟩ (by simp) rfl)) rfl⟩
                  | 13, _ => injection ho with ho; subst ho; exact .inl ⟨52, _, rfl, rfl, fun L a w' bk hI hd => ex_extract rfl (hI.pure 11 _ _ rfl (hd ⟨11, .data⟩ (by simp) rfl)) rfl⟩
                  | 14, _ => injection ho with ho; subst ho; exact .inl ⟨9, _, rfl, rfl, fun L a w' bk hI hd => ex_assign rfl (hI.pure 13 _ _ rfl (hd ⟨13, .data⟩ (by simp) rfl))⟩
                case fin =>
                  intro L a' w' bk hI hall
                  have ea := act_all a' 54 (by rw [hI.sz]; rfl) hI.df
                  simp only [List.range, List.range.loop, List.map] at ea
                  rw [hI.fix 0 (Reg.notD rfl), hI.fix 1 (Reg.notD rfl), hI.fix 2 (Reg.notD rfl), hI.fix 3 (Reg.notD rfl), hI.fix 4 (Reg.notD rfl), hI.fix 5 (Reg.notD rfl), hI.fix 6 (Reg.notD rfl), hI.fix 7 (Reg.notD rfl), hI.fix 8 (Reg.notD rfl), hI.fix 10 (Reg.notD rfl), hI.fix 11 (Reg.notD rfl), hI.fix 12 (Reg.notD rfl), hI.fix 13 (Reg.notD rfl), hI.fix 14 (Reg.notD rfl), hI.fix 15 (Reg.notD rfl), hI.fix 16 (Reg.notD rfl), hI.fix 17 (Reg.notD rfl), hI.fix 18 (Reg.notD rfl), hI.fix 19 (Reg.notD rfl), hI.fix 20 (Reg.notD rfl), hI.fix 21 (Reg.notD rfl), hI.fix 22 (Reg.notD rfl), hI.fix 23 (Reg.notD rfl), hI.fix 24 (Reg.notD rfl), hI.fix 25 (Reg.notD rfl), hI.fix 26 (Reg.notD rfl), hI.fix 27 (Reg.notD rfl), hI.fix 28 (Reg.notD rfl), hI.fix 29 (Reg.notD rfl), hI.fix 30 (Reg.notD rfl), hI.fix 31 (Reg.notD rfl), hI.fix 32 (Reg.notD rfl), hI.fix 33 (Reg.notD rfl), hI.fix 34 (Reg.notD rfl), hI.fix 35 (Reg.notD rfl), hI.fix 36 (Reg.notD rfl), hI.fix 37 (Reg.notD rfl), hI.fix 38 (Reg.notD rfl), hI.fix 53 (Reg.notD rfl)] at ea
                  have p9 := hI.pure 14 9 _ rfl (hall 14 (by decide))
                  have hbx := hI.world.1
                  rw [p9] at ea
                  clear hI hall p9
                  generalize a'.eval (.tmp 39) = u39 at ea
                  generalize a'.eval (.tmp 40) = u40 at ea
                  generalize a'.eval (.tmp 41) = u41 at ea
                  generalize a'.eval (.tmp 42) = u42 at ea
                  generalize a'.eval (.tmp 43) = u43 at ea
                  generalize a'.eval (.tmp 44) = u44 at ea
                  generalize a'.eval (.tmp 45) = u45 at ea
                  generalize a'.eval (.tmp 46) = u46 at ea
                  generalize a'.eval (.tmp 47) = u47 at ea
                  generalize a'.eval (.tmp 48) = u48 at ea
                  generalize a'.eval (.tmp 49) = u49 at ea
                  generalize a'.eval (.tmp 50) = u50 at ea
                  generalize a'.eval (.tmp 51) = u51 at ea
                  generalize a'.eval (.tmp 52) = u52 at ea
                  simp only [show ∀ (ts : Array Value) (ds) (i : Nat), (Act.mk ts ds).eval (.tmp i) = ts.getD i undef from fun _ _ _ => rfl] at ea
                  simp at ea
                  subst ea
                  go_wp2_with fail
                  go_roundw
                  case rel =>
                    refine ⟨q + 1, ev, by omega, by go_num, HB2'.out.trans (hbx.mono HB2'.out.size), rfl, ?_⟩
                    by_cases h0 : ev = 0
                    · exact .inl ⟨h0, fun j hj => by rcases Nat.lt_or_ge j q with l | l; exact HALL2.out j l; obtain rfl : j = q := (by omega); rw [HEV.out, h0]⟩
                    · exact .inr ⟨⟨k, q, hlt, hlq, HEV.out, h0, HALL.out, HALL2.out⟩, h0⟩
                  case measure => simp [intOf]; omega
            · have hqn : ¬ (q : Int) < (P.jn k : Int) := by omega
              go_wp2_with fail
              go_roundw
              case rel => exact ⟨k + 1, 0, by omega, by go_num, HB2'.out, rfl, .inl ⟨rfl, fun h hh j hj => by rcases Nat.lt_or_ge h k with l | l; exact HALL.out h l j hj; obtain rfl : h = k := (by omega); exact HALL2.out j (by omega)⟩⟩
              case measure => simp [intOf]; omega
          · have HFE := hide hfe2
            clear hfe2
            by_cases hlq : q < P.jn k
            · have hqn : (q : Int) < (P.jn k : Int) := by omega
              go_wp2_with fail
              go_roundw
              case rel => exact ⟨k + 1, er, by omega, by go_num, HB2'.out, rfl, .inr HFE.out⟩
              case measure => simp [intOf]; omega
            · have hqn : ¬ (q : Int) < (P.jn k : Int) := by omega
              go_wp2_with fail
              go_roundw
              case rel => exact ⟨k + 1, er, by omega, by go_num, HB2'.out, rfl, .inr HFE.out⟩
              case measure => simp [intOf]; omega
      · have hkn : ¬ (k : Int) < (P.nh : Int) := by omega
        go_wp2_with fail
        go_ret
        exact ⟨BW.out.trans (HB.out.mono (by omega)), .inl ⟨fun h hh j hj => HALL.out h (by omega) j hj, rfl⟩⟩
    · have hne : ¬ er = 0 := by obtain ⟨_, _, _, _, _, h, _⟩ := hfe; exact h
      have HFE := hide hfe
      clear hfe
      by_cases hlt : k < P.nh
      · have hkn : (k : Int) < (P.nh : Int) := by omega
        go_wp2_with fail
        go_ret
        exact ⟨BW.out.trans (HB.out.mono (by omega)), .inr ⟨er, HFE.out, rfl⟩⟩
      · have hkn : ¬ (k : Int) < (P.nh : Int) := by omega
        go_wp2_with fail
        go_ret
        exact ⟨BW.out.trans (HB.out.mono (by omega)), .inr ⟨er, HFE.out, rfl⟩⟩
set_option maxHeartbeats 4000000 in
theorem wrong_fits (er : Int) (her : er ≠ 0) (h : ∀ w' : World, Below w.heap.size w w' → Calls Tryz.prog 59 #[.slice aoh P.nh caph, .slice aos P.ns caps, .int .i64 most] w' fun e w'' => e = .returned (.int .i64 er) ∧ w'' = w') :
    Calls Tryz.prog 53 #[sh.val, .slice aoh P.nh caph, .slice aos P.ns caps, .int .i64 most] w fun e w' => Below w.heap.size w w' ∧ e = .returned (.int .i64 er) := by
  have her' : ¬ er = 0 := her
  have HH := hide (h _ ((Below.refl _ w).alloc (Nat.le_refl _) (.cells #[.int .i64 sh.a, .int .i64 sh.b, .int .i64 sh.c, .int .i64 sh.d, .int .i64 sh.e, .int .i64 sh.f] 23)))
  clear h her
  simp only [Shp.val]
  go_enter Tryz.func53, Tryz.ntmps53
  go_wp2_with (go_at_call 59; refine HH.out.mono ?_; rintro e w' ⟨rfl, hw⟩; obtain rfl := hw.symm)
  go_loopw [9, 10] (fun e i wr => ∃ k : Nat, k ≤ P.nh ∧ e = .int .i64 er ∧ i = .int .i64 k ∧ wr = w.alloc (.cells #[.int .i64 sh.a, .int .i64 sh.b, .int .i64 sh.c, .int .i64 sh.d, .int .i64 sh.e, .int .i64 sh.f] 23)) (fun _ _ _ => 0)
  case atStart => exact ⟨0, Nat.zero_le _, rfl, rfl, rfl⟩
  case round =>
    obtain ⟨k, hk, rfl, rfl, rfl⟩ := hrel
    by_cases hlt : k < P.nh
    · have hkn : (k : Int) < (P.nh : Int) := by omega
      go_wp2_with fail
      go_ret
      exact ⟨(Below.refl _ w).alloc (Nat.le_refl _) _, rfl⟩
    · have hkn : ¬ (k : Int) < (P.nh : Int) := by omega
      go_wp2_with fail
      go_ret
      exact ⟨(Below.refl _ w).alloc (Nat.le_refl _) _, rfl⟩
end L16
end Go.Proofs.YtnodkeoikamonaaGreat
/-
  The statement's own reference of tasks of several steps: ran, where it refuses.
-/
namespace Go.Proofs.YtnodkeoikamonaaGreat
namespace L16
open Go.RowKit
set_option linter.unusedVariables false
set_option linter.unusedSimpArgs false
set_option linter.unnecessarySimpa false
set_option maxRecDepth 20000
def WrongB (K : Kd) (w : World) (P : Par) (most : Int) (e : Ending) (w' : World) : Prop :=
  Below w.heap.size w w' ∧ ((Fine P most ∧ AllOk K P ∧ e = .returned (.int .i64 0)) ∨ ∃ er, ErrOf K P most er ∧ e = .returned (.int .i64 er))
variable {K : Kd} {rep : List Value → K.σ → Prop} {sh : Shp} {w : World} {ao aoh aos : Option Addr} {cap caph caps : Nat} {P : Par} {most : Int}
theorem wrong_all (RK : RKind K rep sh 54 35) (hjw : ∀ h, h < P.nh → ∀ j, j < P.jn h → (P.jb h j).wf) (hn : P.n ≤ 4096) (SH : SeesH w w.heap.size aoh P.nh P.jn P.jb) (hn63 : P.nh ≤ 9223372036854775807) :
    Calls Tryz.prog 53 #[sh.val, .slice aoh P.nh caph, .slice aos P.ns caps, .int .i64 most] w (WrongB K w P most) := by
  by_cases h2 : LongHands P.nh P.jn ∨ 65536 < P.ns ∨ 65536 < most
  · exact (wrong_fits 1 (by decide) (fun w' hb => fits_long (SH.below hb (Nat.le_refl _)) hn63 most h2)).mono fun e w' ⟨hb, he⟩ => ⟨hb, .inr ⟨1, .inr (.inl ⟨hn, h2, rfl⟩), he⟩⟩
  · have hl : ¬ LongHands P.nh P.jn := fun h => h2 (.inl h)
    have hs : P.ns ≤ 65536 := by rcases Nat.lt_or_ge 65536 P.ns with l | l; exact absurd (.inr (.inl l)) h2; exact l
    have hm : most ≤ 65536 := by rcases Int.lt_or_le 65536 most with l | l; exact absurd (.inr (.inr l)) h2; exact l
    by_cases h3 : most < 0
    · exact (wrong_fits 2 (by decide) (fun w' hb => fits_fine (SH.below hb (Nat.le_refl _)) hl hs most hm 2 (.inr ⟨h3, rfl⟩))).mono fun e w' ⟨hb, he⟩ => ⟨hb, .inr ⟨2, .inr (.inr (.inl ⟨hn, hl, hs, h3, rfl⟩)), he⟩⟩
    · have hF : Fine P most := ⟨hn, hl, hs, by omega, hm⟩
      refine (wrong_fine RK hjw SH hl hs (by omega) hm).mono fun e w' ⟨hb, hc⟩ => ⟨hb, ?_⟩
      rcases hc with ⟨hok, he⟩ | ⟨er, hfe, he⟩
      · exact .inl ⟨hF, hok, he⟩
      · exact .inr ⟨er, .inr (.inr (.inr ⟨hF, hfe⟩)), he⟩
set_option maxHeartbeats 4000000 in
theorem ran_err (RK : RKind K rep sh 54 35) (hjw : ∀ h, h < P.nh → ∀ j, j < P.jn h → (P.jb h j).wf) (hn : P.n ≤ 4096) (SH : SeesH w w.heap.size aoh P.nh P.jn P.jb) (hn63 : P.nh ≤ 9223372036854775807) {er : Int} (he : ErrOf K P most er) :
    Calls Tryz.prog 23 #[sh.val, .slice ao P.n cap, .slice aoh P.nh caph, .slice aos P.ns caps, .int .i64 most] w fun e w' => e = .returned (errVal er) ∧ Below w.heap.size w w' := by
  have her' : ¬ er = 0 := he.ne
  obtain ⟨W2, hW2⟩ : ∃ W2, (w.alloc (.cells #[.int .i64 sh.a, .int .i64 sh.b, .int .i64 sh.c, .int .i64 sh.d, .int .i64 sh.e, .int .i64 sh.f] 23)).alloc (.cells #[.slice none 0 0, .slice none 0 0, .bool false] 32) = W2 := ⟨_, rfl⟩
  have b2 : Below w.heap.size w W2 := by rw [← hW2]; exact ((Below.refl _ w).alloc (Nat.le_refl _) _).alloc (by simp) _
  have sz2 : W2.heap.size = w.heap.size + 2 := by rw [← hW2]; simp
  have R1 : W2.rowIs w.heap.size 23 6 (lrow [Value.int .i64 sh.a, .int .i64 sh.b, .int .i64 sh.c, .int .i64 sh.d, .int .i64 sh.e, .int .i64 sh.f]) := by rw [← hW2]; exact (rowL_alloc w [Value.int .i64 sh.a, .int .i64 sh.b, .int .i64 sh.c, .int .i64 sh.d, .int .i64 sh.e, .int .i64 sh.f] _ rfl).alloc _
  have R2 := hide (show W2.rowIs (w.heap.size + 1) 32 3 (lrow [.slice none 0 0, .slice none 0 0, .bool false]) from by rw [← hW2]; have := rowL_alloc (w.alloc (.cells #[.int .i64 sh.a, .int .i64 sh.b, .int .i64 sh.c, .int .i64 sh.d, .int .i64 sh.e, .int .i64 sh.f] 23)) [.slice none 0 0, .slice none 0 0, .bool false] 32 (n := 3) rfl; rwa [World.size_alloc] at this)
  have c0 : W2.cell? ⟨w.heap.size, 0, none⟩ = some (.int .i64 sh.a) := R1.cell (i := 0) (by omega)
  have c1 : W2.cell? ⟨w.heap.size, 1, none⟩ = some (.int .i64 sh.b) := R1.cell (i := 1) (by omega)
  have c2 : W2.cell? ⟨w.heap.size, 2, none⟩ = some (.int .i64 sh.c) := R1.cell (i := 2) (by omega)
  have c3 : W2.cell? ⟨w.heap.size, 3, none⟩ = some (.int .i64 sh.d) := R1.cell (i := 3) (by omega)
  have c4 : W2.cell? ⟨w.heap.size, 4, none⟩ = some (.int .i64 sh.e) := R1.cell (i := 4) (by omega)
  have c5 : W2.cell? ⟨w.heap.size, 5, none⟩ = some (.int .i64 sh.f) := R1.cell (i := 5) (by omega)
  have WR := hide (wrong_all RK hjw (caph := caph) (aos := aos) (caps := caps) (most := most) hn (w := W2) (fun i hi => by
    obtain ⟨b, off, ao', cap, e, hb, hc, hj⟩ := SH.below b2 (Nat.le_refl _) i hi
    exact ⟨b, off, ao', cap, e, by omega, hc, fun q hq => by obtain ⟨b', off', e', hb', hc'⟩ := hj q hq; exact ⟨b', off', e', by omega, hc'⟩⟩) hn63)
  have HE := hide he
  have BW := hide b2
  clear SH RK hjw R1 he b2
  simp only [Shp.val] at WR ⊢
  unfold errVal
  go_enter Tryz.func23, Tryz.ntmps23
  go_wp2_with (go_at_call 53; refine WR.out.mono ?_; rintro e w' ⟨hb, hc⟩; obtain rfl : e = .returned (.int .i64 er) := (by rcases hc with ⟨h1, h2, _⟩ | ⟨er', h, rfl⟩; exact absurd ⟨h1, h2⟩ HE.out.not; rw [h.one HE.out]); have HB := hide hb; have sz3 := hb.size; have rT := R2.out.of_block (hb.block _ (by omega)); have z0 : w'.cell? ⟨w.heap.size + 1, 0, none⟩ = some (.slice none 0 0) := rT.cell (i := 0) (by omega); have z1 : w'.cell? ⟨w.heap.size + 1, 1, none⟩ = some (.slice none 0 0) := rT.cell (i := 1) (by omega); have z2 : w'.cell? ⟨w.heap.size + 1, 2, none⟩ = some (.bool false) := rT.cell (i := 2) (by omega); have y0 := rT.frozen 0; have y1 := rT.frozen 1; have y2 := rT.frozen 2; clear hb hc rT)
  go_light
  refine bodyPost_ret (v := errVal er) ?_ rfl ⟨rfl, (((BW.out.trans (HB.out.mono (by omega))).setCell (by simp) _).setCell (by simp) _).setCell (by simp) _⟩
  simp [results, Tryz.results23, go_sem, errVal, *]
end L16
end Go.Proofs.YtnodkeoikamonaaGreat
