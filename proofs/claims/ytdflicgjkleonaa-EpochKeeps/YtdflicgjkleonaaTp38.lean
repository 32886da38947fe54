/-
  Lemmas: EpochRC.
-/
import Derived.Test.YtdflicgjkleonaaTp35
import Derived.Test.YtdflicgjkleonaaTp36
import Derived.Deep.CutBlock
/-
  The epoch's reference: a Reap, at its places.
-/
namespace Go.Proofs.Ytdflicgjkleonaa
open Go.RowKit
set_option linter.unusedVariables false
set_option linter.unusedSimpArgs false
set_option linter.unnecessarySimpa false
set_option maxRecDepth 20000
namespace Epoch

set_option maxHeartbeats 8000000 in
theorem rp5_none {w : World} {g n cap : Nat} {f f' : Nat → Int} {x : Stp} {s0 s1 s2 s3 s4 s5 hand a b c hh r0 r1 r2 r3 r4 val : Int} {ok : Bool} (hr : IsRow w g n cap f) (hn : 0 ≤ r2 ∧ r2 ≤ 64) (a0 : x.had = 0)  {l2 : List Value} {en : Bool} (hl2 : IsTk l2) (hc : ∀ w1 : World, Calls Try.prog 56 #[.agg (tk ⟨s0, s1, s2, s3, s4, s5⟩ hand ⟨4, a, b, c, hh⟩ 5 ⟨r0, r1, r2, x.had, r4, 0, 0, 0⟩ ⟨ok, val⟩).toArray, x.val] w1 fun e w' => e = .returned (.tuple #[.agg l2.toArray, x.val, .bool en]) ∧ w1.grownBy w' none) (hx : stepOf n f ⟨hand, 1, 9 + r2, 0, 0, true⟩ = x) (hf' : wordsOf n f ⟨hand, 1, 9 + r2, 0, 0, true⟩ = f') :
    Calls Try.prog 42 #[.agg (tk ⟨s0, s1, s2, s3, s4, s5⟩ hand ⟨4, a, b, c, hh⟩ 5 ⟨r0, r1, r2, r3, r4, 0, 0, 0⟩ ⟨ok, val⟩).toArray, .slice (some ⟨g, 0, none⟩) n cap] w fun e w' =>
      e = .returned (.tuple #[.agg l2.toArray, x.val, .bool en]) ∧ IsRow w' g n cap f' ∧ w.grownBy w' (some g) := by
  have DO := hide (fun (w' : World) (hr' : IsRow w' g n cap f) => ref_do (s := ⟨hand, 1, 9 + r2, 0, 0, true⟩) hr' ⟨Int.le_refl 0, by show (0 : Int) ≤ 18446744073709551615; decide⟩ ⟨by show (1 : Int) ≤ 1; decide, by show (1 : Int) ≤ 5; decide⟩)
  have HX := hide hx
  have HF := hide hf'
  have lg := hr.lt
  obtain ⟨l0, hl0⟩ : ∃ l, tk ⟨s0, s1, s2, s3, s4, s5⟩ hand ⟨4, a, b, c, hh⟩ 5 ⟨r0, r1, r2, r3, r4, 0, 0, 0⟩ ⟨ok, val⟩ = l := ⟨_, rfl⟩
  have hl0' : l0.length = 28 := by rw [← hl0]; rfl
  have hl0i := hide (show IsTk l0 from by rw [← hl0]; exact tk_is _ _ _ _ _ _)
  have hset : (l0.set 16 (.int .u64 x.had)) = tk ⟨s0, s1, s2, s3, s4, s5⟩ hand ⟨4, a, b, c, hh⟩ 5 ⟨r0, r1, r2, x.had, r4, 0, 0, 0⟩ ⟨ok, val⟩ := by rw [← hl0] <;> rfl
  obtain ⟨l1, hl1⟩ : ∃ l, tk ⟨s0, s1, s2, s3, s4, s5⟩ hand ⟨4, a, b, c, hh⟩ 5 ⟨r0, r1, r2, x.had, r4, 0, 0, 0⟩ ⟨ok, val⟩ = l := ⟨_, rfl⟩
  rw [hl0]
  rw [hl1] at hc
  rw [hl1] at hset
  have hl1i := hide (show IsTk l1 from by rw [← hl1]; exact tk_is _ _ _ _ _ _)
  obtain ⟨W3, hW3, sz3, R0, R1, R2, R3, G3, R4, cell⟩ := RPre.pre hr hl0'
  have HR3 := hide R4
  have g6 : l0[6]? = some (.int .i64 hand) := by rw [← hl0]; rfl
  have g12 : l0[12]? = some (.int .i64 5) := by rw [← hl0]; rfl
  have g14 : l0[14]? = some (.int .u64 r1) := by rw [← hl0]; rfl
  have g15 : l0[15]? = some (.int .u64 r2) := by rw [← hl0]; rfl
  have g16 : l0[16]? = some (.int .u64 r3) := by rw [← hl0]; rfl
  have c6 := cell 6 _ g6
  have c12 := cell 12 _ g12
  have c14 := cell 14 _ g14
  have c15 := cell 15 _ g15
  have c16 := cell 16 _ g16
  have G6 := hide g6
  have G12 := hide g12
  have G14 := hide g14
  have G15 := hide g15
  have G16 := hide g16
  obtain ⟨dT, hdT1, hdT2⟩ := row79
  obtain ⟨dS, hdS1, hdS2⟩ := row46
  have HD := hide (And.intro hdT1 (And.intro hdT2 (And.intro hdS1 hdS2)))
  have HR0 := hide R0
  have HR1 := hide R1
  have HR2 := hide R2
  have HRS := hide R3
  have HG3 := hide G3
  have HSET := hide hset
  have HC := hide hc
  have HL2 := hide hl2
  have HL0 := hide hl0'
  have v2 : wrap64 2 = 2 := by unfold wrap64; omega
  have v3 : wrap64 3 = 3 := by unfold wrap64; omega
  have v4 : wrap64 4 = 4 := by unfold wrap64; omega
  have fc0 : (x.had != 0) = false := by simpa using a0
  have b9 : wrap64 r2 = r2 := by unfold wrap64; omega
  have b8 : IntKind.i64.wrap r2 = r2 := by rw [IntKind.wrap_i64]; omega
  have b10 : wrap64 (9 + r2) = 9 + r2 := by unfold wrap64; omega
  clear hx hf' hr hc hl2 R0 R1 R2 R3 R4 G3 cell hset hl0' hl0 hl1 hdT1 hdT2 hdS1 hdS2 hn a0 g6 g12 g14 g15 g16
  simp only [tk0, RPre.ZL] at hW3
  go_enter Try.func42, Try.ntmps42
  go_wp2_with fail
  refine (DO.out _ HR3.out).mono ?_
  rintro e w1 ⟨rfl, hr1, hg1⟩
  rw [HX.out]
  rw [HF.out] at hr1
  simp only [Stp.val]
  have sz1 := hg1.size
  obtain ⟨V1, hV1, szV, q1', q2', q3', q4', q5', q6', ⟨⟨z0, zf0⟩, ⟨z1, zf1⟩, ⟨z2, zf2⟩, ⟨z3, zf3⟩, ⟨z4, zf4⟩, z5, zf5⟩, y0, y1, y2, y3, y4, y5⟩ := RPre.aft x HR0.out HR1.out HR2.out HRS.out HG3.out lg sz3 hr1 hg1
  try simp only at hV1 y0 y1 y2 y3 y4 y5
  have HRQ := hide (show V1.rangeAt (w.heap.size + 3) 0 [Value.int .i64 x.hand, .int .i64 x.act, .int .i64 x.at_, .int .u64 x.had, .int .u64 x.put, .bool x.ok] from q1')
  have HR4 := hide q2'
  have HR5 := hide q3'
  have HR6 := hide q4'
  have HR1' := hide q5'
  have HT1 := hide q6'
  have lV : w.heap.size + 3 < V1.heap.size := by omega
  have lV0 : w.heap.size < V1.heap.size := by omega
  have e6 : V1.cell? ⟨w.heap.size, 6, none⟩ = some (.int .i64 hand) := by rw [HR4.out.cell (i := 6) (by omega), lrow_of G6.out]
  have f6 := HR4.out.frozen 6
  have e12 : V1.cell? ⟨w.heap.size, 12, none⟩ = some (.int .i64 5) := by rw [HR4.out.cell (i := 12) (by omega), lrow_of G12.out]
  have f12 := HR4.out.frozen 12
  have e14 : V1.cell? ⟨w.heap.size, 14, none⟩ = some (.int .u64 r1) := by rw [HR4.out.cell (i := 14) (by omega), lrow_of G14.out]
  have f14 := HR4.out.frozen 14
  have e15 : V1.cell? ⟨w.heap.size, 15, none⟩ = some (.int .u64 r2) := by rw [HR4.out.cell (i := 15) (by omega), lrow_of G15.out]
  have f15 := HR4.out.frozen 15
  have e16 : V1.cell? ⟨w.heap.size, 16, none⟩ = some (.int .u64 r3) := by rw [HR4.out.cell (i := 16) (by omega), lrow_of G16.out]
  have f16 := HR4.out.frozen 16
  have l1w : w.heap.size + 3 < w1.heap.size := by omega
  clear hr1 hg1 q1' q2' q3' q4' q5' q6' hW3 c6 c12 c14 c15 c16
  go_upto_region 30 with (fail)
  clear hV1 z0 zf0 z1 zf1 z2 zf2 z3 zf3 z4 zf4 z5 zf5
  obtain ⟨WA, hWA⟩ : ∃ W, (V1.setCell ⟨w.heap.size, 16, none⟩ (.int .u64 x.had)) = W := ⟨_, rfl⟩
  have tt0 : Touch V1 WA (fun k => k = w.heap.size) := by
    rw [← hWA]
    exact Touch.trans' (S' := fun k => k = w.heap.size) (⟨rfl, rfl, rfl, Nat.le_refl _, fun _ _ _ => rfl⟩ : Touch V1 V1 (fun k => k = w.heap.size)) (Touch.setCell (S := fun k => k = w.heap.size) (Touch.refl V1 _) ⟨w.heap.size, 16, none⟩ (.inl rfl) _) (fun k _ h => h)
  have szA : WA.heap.size = V1.heap.size := by
    rw [← hWA] <;> first | (simp; done) | rfl | (simp; rfl)
  have rA : WA.rangeAt w.heap.size 0 l1 := by
    have := rowIs.range (rowIs.setL (show World.rowIs V1 w.heap.size 64 28 (lrow l0) from HR4.out) (i := 16) (by simp [HL0.out]) (.int .u64 x.had)) (by simp [HL0.out])
    rw [HSET.out, hWA] at this
    exact this
  have rB : WA.rangeAt (w.heap.size + 3) 0 [Value.int .i64 x.hand, .int .i64 x.act, .int .i64 x.at_, .int .u64 x.had, .int .u64 x.put, .bool x.ok] := rangeAt_block HRQ.out (tt0.block _ (by omega) (by omega))
  have tC : WA.there (w.heap.size + 1) 0 28 := rowIs.there (HR5.out.of_block (tt0.block _ (by omega) (by omega))) (by omega)
  have tD : WA.there (w.heap.size + 2) 0 6 := rowIs.there (HR6.out.of_block (tt0.block _ (by omega) (by omega))) (by omega)
  have rS6 := HR6.out.of_block (tt0.block _ (by omega) (by omega))
  have rW : IsRow WA g n cap f' := HR1'.out.block (tt0.block g (by omega) (by omega))
  have TW : Touch w WA (fun k => k = g) := HT1.out.trans' tt0 (fun k hk h => absurd hk (by omega))
  first | rw [hWA] | skip
  have HTW := hide TW
  have HRW := hide rW
  clear TW rW hWA tt0
  have x0c : WA.cell? ⟨w.heap.size + 3, 0, none⟩ = some (.int .i64 x.hand) := by have := rB 0 _ rfl; simpa using this
  have x1c : WA.cell? ⟨w.heap.size + 3, 1, none⟩ = some (.int .i64 x.act) := by have := rB 1 _ rfl; simpa using this
  have x2c : WA.cell? ⟨w.heap.size + 3, 2, none⟩ = some (.int .i64 x.at_) := by have := rB 2 _ rfl; simpa using this
  have x3c : WA.cell? ⟨w.heap.size + 3, 3, none⟩ = some (.int .u64 x.had) := by have := rB 3 _ rfl; simpa using this
  have x4c : WA.cell? ⟨w.heap.size + 3, 4, none⟩ = some (.int .u64 x.put) := by have := rB 4 _ rfl; simpa using this
  have x5c : WA.cell? ⟨w.heap.size + 3, 5, none⟩ = some (.bool x.ok) := by have := rB 5 _ rfl; simpa using this
  have lA : w.heap.size + 3 < WA.heap.size := by omega
  have RAh := hide rA
  have HCW := hide (HC.out WA)
  have TCh := hide tC
  have HR7 := hide (HR6.out)
  have rD6 := hide (show WA.rowIs (w.heap.size + 2) 71 6 (lrow [Value.int .i64 0, .int .i64 0, .int .i64 0, .int .u64 0, .int .u64 0, .bool false]) from rS6)
  simp only [Stp.val] at HCW
  clear rA rB tC tD HC HR7 y0 y1 y2 y3 y4 y5 e6 f6 e12 f12 e14 f14 e15 f15 e16 f16
  go_wp2_with (refine wpList_load_mid (by rfl) 64 (.tmp 2) (by rfl) w.heap.size 0 (by rfl) l1 dT (by exact RAh.out) (by exact HD.out.1) (by exact HD.out.2.1) (by rw [hl1i.out.1]; exact size79) ?_)
  try clear b7
  try clear hm2
  clear b8 b9 b10 v2 v3 v4
  refine HCW.out.mono ?_
  rintro e w1' ⟨rfl, hg1⟩
  have sz1' := hg1.size
  have HT1' := hide (there_block TCh.out (hg1.block (w.heap.size + 1) (by omega) (by simp)))
  have RS := hide (rD6.out.of_block (hg1.block (w.heap.size + 2) (by omega) (by simp)))
  have HRW' := hide (HRW.out.block (hg1.block g HRW.out.lt (by simp)))
  have HGW := hide (show w.grownBy w1' (some g) from by
    have := HTW.out.trans' (Touch.of_grown_none hg1 (fun k => k = g)) (fun k hk h => h)
    exact ⟨this.os, this.tape, this.output, this.size, fun k hk hn => this.block k hk (by simpa using hn)⟩)
  have l2' : w.heap.size + 2 < w1'.heap.size := by omega
  have DT1 := hide HD.out.1
  have DT2 := hide HD.out.2.1
  have HD2 := hide (And.intro HD.out.2.2.1 HD.out.2.2.2)
  clear hg1 HCW x0c x1c x2c x3c x4c x5c RAh TCh rD6 HTW HRW HT1
  obtain ⟨W5, hW5⟩ : ∃ W5, w1'.setCells (w.heap.size + 1) 0 l2 = W5 := ⟨_, rfl⟩
  have tt5 : Touch w1' W5 (fun k => k = w.heap.size + 1) := by rw [← hW5]; exact touch_setCells _ _ _ _
  have r5 := hide (show W5.rangeAt (w.heap.size + 1) 0 l2 from by rw [← hW5]; exact World.rangeAt_setCells_same w1' (w.heap.size + 1) 0 l2 (by rw [HL2.out.1]; exact HT1'.out))
  have RS5 := hide (RS.out.of_block (tt5.block _ (by omega) (by omega)))
  have HR5 := hide (HRW'.out.block (tt5.block g HRW'.out.lt (by omega)))
  have HG5 := hide (show w.grownBy W5 (some g) from by
    have := (Touch.of_grown HGW.out).trans' tt5 (S := fun k => some k = some g) (fun k hk h => absurd hk (by omega))
    exact ⟨this.os, this.tape, this.output, this.size, fun k hk hn => this.block k hk (by simpa using hn)⟩)
  have l5 : w.heap.size + 2 < W5.heap.size := by have := tt5.size; omega
  have z0 : W5.cell? ⟨w.heap.size + 2, 0, none⟩ = some (.int .i64 0) := by rw [RS5.out.cell (i := 0) (by omega)]; rfl
  have zf0 := RS5.out.frozen 0
  have z1 : W5.cell? ⟨w.heap.size + 2, 1, none⟩ = some (.int .i64 0) := by rw [RS5.out.cell (i := 1) (by omega)]; rfl
  have zf1 := RS5.out.frozen 1
  have z2 : W5.cell? ⟨w.heap.size + 2, 2, none⟩ = some (.int .i64 0) := by rw [RS5.out.cell (i := 2) (by omega)]; rfl
  have zf2 := RS5.out.frozen 2
  have z3 : W5.cell? ⟨w.heap.size + 2, 3, none⟩ = some (.int .u64 0) := by rw [RS5.out.cell (i := 3) (by omega)]; rfl
  have zf3 := RS5.out.frozen 3
  have z4 : W5.cell? ⟨w.heap.size + 2, 4, none⟩ = some (.int .u64 0) := by rw [RS5.out.cell (i := 4) (by omega)]; rfl
  have zf4 := RS5.out.frozen 4
  have z5 : W5.cell? ⟨w.heap.size + 2, 5, none⟩ = some (.bool false) := by rw [RS5.out.cell (i := 5) (by omega)]; rfl
  have zf5 := RS5.out.frozen 5
  clear tt5 RS HGW
  simp only [Stp.val]
  go_wp2_with (refine wpList_store_mid (by rfl) 64 (.tmp 4) (.tmp 143) (by rfl) (w.heap.size + 1) 0 l2.toArray (by rfl) (by rfl) (by simpa [HL2.out.1] using HT1'.out) (by simpa [HL2.out.1] using size79) (by exact all_oneCell_toArray HL2.out.2) ?_)
  obtain ⟨W6, hW6⟩ : ∃ W6, ((((((W5.setCell ⟨w.heap.size + 2, 0, none⟩ (.int .i64 x.hand)).setCell ⟨w.heap.size + 2, 1, none⟩ (.int .i64 x.act)).setCell ⟨w.heap.size + 2, 2, none⟩ (.int .i64 x.at_)).setCell ⟨w.heap.size + 2, 3, none⟩ (.int .u64 x.had)).setCell ⟨w.heap.size + 2, 4, none⟩ (.int .u64 x.put)).setCell ⟨w.heap.size + 2, 5, none⟩ (.bool x.ok)) = W6 := ⟨_, rfl⟩
  have tt6 : Touch W5 W6 (fun k => k = w.heap.size + 2) := by rw [← hW6]; exact (Touch.setCell (S := fun k => k = w.heap.size + 2) (Touch.setCell (S := fun k => k = w.heap.size + 2) (Touch.setCell (S := fun k => k = w.heap.size + 2) (Touch.setCell (S := fun k => k = w.heap.size + 2) (Touch.setCell (S := fun k => k = w.heap.size + 2) (Touch.setCell (S := fun k => k = w.heap.size + 2) (Touch.refl W5 _) ⟨w.heap.size + 2, 0, none⟩ (.inl rfl) _) ⟨w.heap.size + 2, 1, none⟩ (.inl rfl) _) ⟨w.heap.size + 2, 2, none⟩ (.inl rfl) _) ⟨w.heap.size + 2, 3, none⟩ (.inl rfl) _) ⟨w.heap.size + 2, 4, none⟩ (.inl rfl) _) ⟨w.heap.size + 2, 5, none⟩ (.inl rfl) _)
  have rq : W6.rangeAt (w.heap.size + 2) 0 [Value.int .i64 x.hand, .int .i64 x.act, .int .i64 x.at_, .int .u64 x.had, .int .u64 x.put, .bool x.ok] := by rw [← hW6]; exact rowIs.range (rowIs.setL (rowIs.setL (rowIs.setL (rowIs.setL (rowIs.setL (rowIs.setL RS5.out (i := 0) (by simp) (.int .i64 x.hand)) (i := 1) (by simp) (.int .i64 x.act)) (i := 2) (by simp) (.int .i64 x.at_)) (i := 3) (by simp) (.int .u64 x.had)) (i := 4) (by simp) (.int .u64 x.put)) (i := 5) (by simp) (.bool x.ok)) (by simp)
  have r6 := rangeAt_block r5.out (tt6.block (w.heap.size + 1) (by omega) (by omega))
  have hT := run_loadVar_mid (P := Try.prog) W6 (w.heap.size + 1) 0 _ l2 dT r6 DT1.out DT2.out (by rw [HL2.out.1]; exact size79)
  have hS := run_loadVar_mid (P := Try.prog) W6 (w.heap.size + 2) 0 _ _ dS rq HD2.out.1 HD2.out.2 size46
  try simp only [hW5, hW6]
  refine bodyPost_ret (v := .tuple #[.agg l2.toArray, x.val, .bool en]) ?res rfl ⟨rfl, HR5.out.block (tt6.block g HR5.out.lt (by omega)), ?gro⟩
  case res => exact results_cct (Q := Try.prog) (fn := Try.f42) (t := 4) (t' := 5) (t'' := 6) (W := W6) (by rfl) (by rfl) hT (by rfl) hS
  case gro =>
    have := (Touch.of_grown HG5.out).trans' tt6 (S := fun k => some k = some g) (fun k hk h => absurd hk (by omega))
    exact ⟨this.os, this.tape, this.output, this.size, fun k hk hn => this.block k hk (by simpa using hn)⟩

set_option maxHeartbeats 8000000 in
theorem rp5_young {w : World} {g n cap : Nat} {f f' : Nat → Int} {x : Stp} {s0 s1 s2 s3 s4 s5 hand a b c hh r0 r1 r2 r3 r4 val : Int} {ok : Bool} (hr : IsRow w g n cap f) (hn : 0 ≤ r2 ∧ r2 ≤ 64) {e2 : Int} (he2 : u64 (x.had + 1) = e2) (a0 : ¬ x.had = 0) (a1 : ¬ e2 ≤ r1)  {l2 : List Value} {en : Bool} (hl2 : IsTk l2) (hc : ∀ w1 : World, Calls Try.prog 56 #[.agg (tk ⟨s0, s1, s2, s3, s4, s5⟩ hand ⟨4, a, b, c, hh⟩ 5 ⟨r0, r1, r2, x.had, r4, 0, 0, 0⟩ ⟨ok, val⟩).toArray, x.val] w1 fun e w' => e = .returned (.tuple #[.agg l2.toArray, x.val, .bool en]) ∧ w1.grownBy w' none) (hx : stepOf n f ⟨hand, 1, 9 + r2, 0, 0, true⟩ = x) (hf' : wordsOf n f ⟨hand, 1, 9 + r2, 0, 0, true⟩ = f') :
    Calls Try.prog 42 #[.agg (tk ⟨s0, s1, s2, s3, s4, s5⟩ hand ⟨4, a, b, c, hh⟩ 5 ⟨r0, r1, r2, r3, r4, 0, 0, 0⟩ ⟨ok, val⟩).toArray, .slice (some ⟨g, 0, none⟩) n cap] w fun e w' =>
      e = .returned (.tuple #[.agg l2.toArray, x.val, .bool en]) ∧ IsRow w' g n cap f' ∧ w.grownBy w' (some g) := by
  have DO := hide (fun (w' : World) (hr' : IsRow w' g n cap f) => ref_do (s := ⟨hand, 1, 9 + r2, 0, 0, true⟩) hr' ⟨Int.le_refl 0, by show (0 : Int) ≤ 18446744073709551615; decide⟩ ⟨by show (1 : Int) ≤ 1; decide, by show (1 : Int) ≤ 5; decide⟩)
  have HX := hide hx
  have HF := hide hf'
  have lg := hr.lt
  obtain ⟨l0, hl0⟩ : ∃ l, tk ⟨s0, s1, s2, s3, s4, s5⟩ hand ⟨4, a, b, c, hh⟩ 5 ⟨r0, r1, r2, r3, r4, 0, 0, 0⟩ ⟨ok, val⟩ = l := ⟨_, rfl⟩
  have hl0' : l0.length = 28 := by rw [← hl0]; rfl
  have hl0i := hide (show IsTk l0 from by rw [← hl0]; exact tk_is _ _ _ _ _ _)
  have hset : (l0.set 16 (.int .u64 x.had)) = tk ⟨s0, s1, s2, s3, s4, s5⟩ hand ⟨4, a, b, c, hh⟩ 5 ⟨r0, r1, r2, x.had, r4, 0, 0, 0⟩ ⟨ok, val⟩ := by rw [← hl0] <;> rfl
  obtain ⟨l1, hl1⟩ : ∃ l, tk ⟨s0, s1, s2, s3, s4, s5⟩ hand ⟨4, a, b, c, hh⟩ 5 ⟨r0, r1, r2, x.had, r4, 0, 0, 0⟩ ⟨ok, val⟩ = l := ⟨_, rfl⟩
  rw [hl0]
  rw [hl1] at hc
  rw [hl1] at hset
  have hl1i := hide (show IsTk l1 from by rw [← hl1]; exact tk_is _ _ _ _ _ _)
  obtain ⟨W3, hW3, sz3, R0, R1, R2, R3, G3, R4, cell⟩ := RPre.pre hr hl0'
  have HR3 := hide R4
  have g6 : l0[6]? = some (.int .i64 hand) := by rw [← hl0]; rfl
  have g12 : l0[12]? = some (.int .i64 5) := by rw [← hl0]; rfl
  have g14 : l0[14]? = some (.int .u64 r1) := by rw [← hl0]; rfl
  have g15 : l0[15]? = some (.int .u64 r2) := by rw [← hl0]; rfl
  have g16 : l0[16]? = some (.int .u64 r3) := by rw [← hl0]; rfl
  have c6 := cell 6 _ g6
  have c12 := cell 12 _ g12
  have c14 := cell 14 _ g14
  have c15 := cell 15 _ g15
  have c16 := cell 16 _ g16
  have G6 := hide g6
  have G12 := hide g12
  have G14 := hide g14
  have G15 := hide g15
  have G16 := hide g16
  obtain ⟨dT, hdT1, hdT2⟩ := row79
  obtain ⟨dS, hdS1, hdS2⟩ := row46
  have HD := hide (And.intro hdT1 (And.intro hdT2 (And.intro hdS1 hdS2)))
  have HR0 := hide R0
  have HR1 := hide R1
  have HR2 := hide R2
  have HRS := hide R3
  have HG3 := hide G3
  have HSET := hide hset
  have HC := hide hc
  have HL2 := hide hl2
  have HL0 := hide hl0'
  have v2 : wrap64 2 = 2 := by unfold wrap64; omega
  have v3 : wrap64 3 = 3 := by unfold wrap64; omega
  have v4 : wrap64 4 = 4 := by unfold wrap64; omega
  have fc0 : (x.had != 0) = true := by simpa using a0
  have b9 : wrap64 r2 = r2 := by unfold wrap64; omega
  have b8 : IntKind.i64.wrap r2 = r2 := by rw [IntKind.wrap_i64]; omega
  have b10 : wrap64 (9 + r2) = 9 + r2 := by unfold wrap64; omega
  have b7 : IntKind.u64.wrap (x.had + 1) = e2 := (rwrap_u64 _).trans he2
  clear hx hf' hr hc hl2 R0 R1 R2 R3 R4 G3 cell hset hl0' hl0 hl1 hdT1 hdT2 hdS1 hdS2 he2 hn a0 g6 g12 g14 g15 g16
  simp only [tk0, RPre.ZL] at hW3
  go_enter Try.func42, Try.ntmps42
  go_wp2_with fail
  refine (DO.out _ HR3.out).mono ?_
  rintro e w1 ⟨rfl, hr1, hg1⟩
  rw [HX.out]
  rw [HF.out] at hr1
  simp only [Stp.val]
  have sz1 := hg1.size
  obtain ⟨V1, hV1, szV, q1', q2', q3', q4', q5', q6', ⟨⟨z0, zf0⟩, ⟨z1, zf1⟩, ⟨z2, zf2⟩, ⟨z3, zf3⟩, ⟨z4, zf4⟩, z5, zf5⟩, y0, y1, y2, y3, y4, y5⟩ := RPre.aft x HR0.out HR1.out HR2.out HRS.out HG3.out lg sz3 hr1 hg1
  try simp only at hV1 y0 y1 y2 y3 y4 y5
  have HRQ := hide (show V1.rangeAt (w.heap.size + 3) 0 [Value.int .i64 x.hand, .int .i64 x.act, .int .i64 x.at_, .int .u64 x.had, .int .u64 x.put, .bool x.ok] from q1')
  have HR4 := hide q2'
  have HR5 := hide q3'
  have HR6 := hide q4'
  have HR1' := hide q5'
  have HT1 := hide q6'
  have lV : w.heap.size + 3 < V1.heap.size := by omega
  have lV0 : w.heap.size < V1.heap.size := by omega
  have e6 : V1.cell? ⟨w.heap.size, 6, none⟩ = some (.int .i64 hand) := by rw [HR4.out.cell (i := 6) (by omega), lrow_of G6.out]
  have f6 := HR4.out.frozen 6
  have e12 : V1.cell? ⟨w.heap.size, 12, none⟩ = some (.int .i64 5) := by rw [HR4.out.cell (i := 12) (by omega), lrow_of G12.out]
  have f12 := HR4.out.frozen 12
  have e14 : V1.cell? ⟨w.heap.size, 14, none⟩ = some (.int .u64 r1) := by rw [HR4.out.cell (i := 14) (by omega), lrow_of G14.out]
  have f14 := HR4.out.frozen 14
  have e15 : V1.cell? ⟨w.heap.size, 15, none⟩ = some (.int .u64 r2) := by rw [HR4.out.cell (i := 15) (by omega), lrow_of G15.out]
  have f15 := HR4.out.frozen 15
  have e16 : V1.cell? ⟨w.heap.size, 16, none⟩ = some (.int .u64 r3) := by rw [HR4.out.cell (i := 16) (by omega), lrow_of G16.out]
  have f16 := HR4.out.frozen 16
  have l1w : w.heap.size + 3 < w1.heap.size := by omega
  clear hr1 hg1 q1' q2' q3' q4' q5' q6' hW3 c6 c12 c14 c15 c16
  go_upto_region 30 with (fail)
  clear hV1 z0 zf0 z1 zf1 z2 zf2 z3 zf3 z4 zf4 z5 zf5
  obtain ⟨WA, hWA⟩ : ∃ W, (V1.setCell ⟨w.heap.size, 16, none⟩ (.int .u64 x.had)) = W := ⟨_, rfl⟩
  have tt0 : Touch V1 WA (fun k => k = w.heap.size) := by
    rw [← hWA]
    exact Touch.trans' (S' := fun k => k = w.heap.size) (⟨rfl, rfl, rfl, Nat.le_refl _, fun _ _ _ => rfl⟩ : Touch V1 V1 (fun k => k = w.heap.size)) (Touch.setCell (S := fun k => k = w.heap.size) (Touch.refl V1 _) ⟨w.heap.size, 16, none⟩ (.inl rfl) _) (fun k _ h => h)
  have szA : WA.heap.size = V1.heap.size := by
    rw [← hWA] <;> first | (simp; done) | rfl | (simp; rfl)
  have rA : WA.rangeAt w.heap.size 0 l1 := by
    have := rowIs.range (rowIs.setL (show World.rowIs V1 w.heap.size 64 28 (lrow l0) from HR4.out) (i := 16) (by simp [HL0.out]) (.int .u64 x.had)) (by simp [HL0.out])
    rw [HSET.out, hWA] at this
    exact this
  have rB : WA.rangeAt (w.heap.size + 3) 0 [Value.int .i64 x.hand, .int .i64 x.act, .int .i64 x.at_, .int .u64 x.had, .int .u64 x.put, .bool x.ok] := rangeAt_block HRQ.out (tt0.block _ (by omega) (by omega))
  have tC : WA.there (w.heap.size + 1) 0 28 := rowIs.there (HR5.out.of_block (tt0.block _ (by omega) (by omega))) (by omega)
  have tD : WA.there (w.heap.size + 2) 0 6 := rowIs.there (HR6.out.of_block (tt0.block _ (by omega) (by omega))) (by omega)
  have rS6 := HR6.out.of_block (tt0.block _ (by omega) (by omega))
  have rW : IsRow WA g n cap f' := HR1'.out.block (tt0.block g (by omega) (by omega))
  have TW : Touch w WA (fun k => k = g) := HT1.out.trans' tt0 (fun k hk h => absurd hk (by omega))
  first | rw [hWA] | skip
  have HTW := hide TW
  have HRW := hide rW
  clear TW rW hWA tt0
  have x0c : WA.cell? ⟨w.heap.size + 3, 0, none⟩ = some (.int .i64 x.hand) := by have := rB 0 _ rfl; simpa using this
  have x1c : WA.cell? ⟨w.heap.size + 3, 1, none⟩ = some (.int .i64 x.act) := by have := rB 1 _ rfl; simpa using this
  have x2c : WA.cell? ⟨w.heap.size + 3, 2, none⟩ = some (.int .i64 x.at_) := by have := rB 2 _ rfl; simpa using this
  have x3c : WA.cell? ⟨w.heap.size + 3, 3, none⟩ = some (.int .u64 x.had) := by have := rB 3 _ rfl; simpa using this
  have x4c : WA.cell? ⟨w.heap.size + 3, 4, none⟩ = some (.int .u64 x.put) := by have := rB 4 _ rfl; simpa using this
  have x5c : WA.cell? ⟨w.heap.size + 3, 5, none⟩ = some (.bool x.ok) := by have := rB 5 _ rfl; simpa using this
  have lA : w.heap.size + 3 < WA.heap.size := by omega
  have RAh := hide rA
  have HCW := hide (HC.out WA)
  have TCh := hide tC
  have HR7 := hide (HR6.out)
  have rD6 := hide (show WA.rowIs (w.heap.size + 2) 71 6 (lrow [Value.int .i64 0, .int .i64 0, .int .i64 0, .int .u64 0, .int .u64 0, .bool false]) from rS6)
  simp only [Stp.val] at HCW
  clear rA rB tC tD HC HR7 y0 y1 y2 y3 y4 y5 e6 f6 e12 f12 e14 f14 e15 f15 e16 f16
  go_wp2_with (refine wpList_load_mid (by rfl) 64 (.tmp 2) (by rfl) w.heap.size 0 (by rfl) l1 dT (by exact RAh.out) (by exact HD.out.1) (by exact HD.out.2.1) (by rw [hl1i.out.1]; exact size79) ?_)
  try clear b7
  try clear hm2
  clear b8 b9 b10 v2 v3 v4
  refine HCW.out.mono ?_
  rintro e w1' ⟨rfl, hg1⟩
  have sz1' := hg1.size
  have HT1' := hide (there_block TCh.out (hg1.block (w.heap.size + 1) (by omega) (by simp)))
  have RS := hide (rD6.out.of_block (hg1.block (w.heap.size + 2) (by omega) (by simp)))
  have HRW' := hide (HRW.out.block (hg1.block g HRW.out.lt (by simp)))
  have HGW := hide (show w.grownBy w1' (some g) from by
    have := HTW.out.trans' (Touch.of_grown_none hg1 (fun k => k = g)) (fun k hk h => h)
    exact ⟨this.os, this.tape, this.output, this.size, fun k hk hn => this.block k hk (by simpa using hn)⟩)
  have l2' : w.heap.size + 2 < w1'.heap.size := by omega
  have DT1 := hide HD.out.1
  have DT2 := hide HD.out.2.1
  have HD2 := hide (And.intro HD.out.2.2.1 HD.out.2.2.2)
  clear hg1 HCW x0c x1c x2c x3c x4c x5c RAh TCh rD6 HTW HRW HT1
  obtain ⟨W5, hW5⟩ : ∃ W5, w1'.setCells (w.heap.size + 1) 0 l2 = W5 := ⟨_, rfl⟩
  have tt5 : Touch w1' W5 (fun k => k = w.heap.size + 1) := by rw [← hW5]; exact touch_setCells _ _ _ _
  have r5 := hide (show W5.rangeAt (w.heap.size + 1) 0 l2 from by rw [← hW5]; exact World.rangeAt_setCells_same w1' (w.heap.size + 1) 0 l2 (by rw [HL2.out.1]; exact HT1'.out))
  have RS5 := hide (RS.out.of_block (tt5.block _ (by omega) (by omega)))
  have HR5 := hide (HRW'.out.block (tt5.block g HRW'.out.lt (by omega)))
  have HG5 := hide (show w.grownBy W5 (some g) from by
    have := (Touch.of_grown HGW.out).trans' tt5 (S := fun k => some k = some g) (fun k hk h => absurd hk (by omega))
    exact ⟨this.os, this.tape, this.output, this.size, fun k hk hn => this.block k hk (by simpa using hn)⟩)
  have l5 : w.heap.size + 2 < W5.heap.size := by have := tt5.size; omega
  have z0 : W5.cell? ⟨w.heap.size + 2, 0, none⟩ = some (.int .i64 0) := by rw [RS5.out.cell (i := 0) (by omega)]; rfl
  have zf0 := RS5.out.frozen 0
  have z1 : W5.cell? ⟨w.heap.size + 2, 1, none⟩ = some (.int .i64 0) := by rw [RS5.out.cell (i := 1) (by omega)]; rfl
  have zf1 := RS5.out.frozen 1
  have z2 : W5.cell? ⟨w.heap.size + 2, 2, none⟩ = some (.int .i64 0) := by rw [RS5.out.cell (i := 2) (by omega)]; rfl
  have zf2 := RS5.out.frozen 2
  have z3 : W5.cell? ⟨w.heap.size + 2, 3, none⟩ = some (.int .u64 0) := by rw [RS5.out.cell (i := 3) (by omega)]; rfl
  have zf3 := RS5.out.frozen 3
  have z4 : W5.cell? ⟨w.heap.size + 2, 4, none⟩ = some (.int .u64 0) := by rw [RS5.out.cell (i := 4) (by omega)]; rfl
  have zf4 := RS5.out.frozen 4
  have z5 : W5.cell? ⟨w.heap.size + 2, 5, none⟩ = some (.bool false) := by rw [RS5.out.cell (i := 5) (by omega)]; rfl
  have zf5 := RS5.out.frozen 5
  clear tt5 RS HGW
  simp only [Stp.val]
  go_wp2_with (refine wpList_store_mid (by rfl) 64 (.tmp 4) (.tmp 143) (by rfl) (w.heap.size + 1) 0 l2.toArray (by rfl) (by rfl) (by simpa [HL2.out.1] using HT1'.out) (by simpa [HL2.out.1] using size79) (by exact all_oneCell_toArray HL2.out.2) ?_)
  obtain ⟨W6, hW6⟩ : ∃ W6, ((((((W5.setCell ⟨w.heap.size + 2, 0, none⟩ (.int .i64 x.hand)).setCell ⟨w.heap.size + 2, 1, none⟩ (.int .i64 x.act)).setCell ⟨w.heap.size + 2, 2, none⟩ (.int .i64 x.at_)).setCell ⟨w.heap.size + 2, 3, none⟩ (.int .u64 x.had)).setCell ⟨w.heap.size + 2, 4, none⟩ (.int .u64 x.put)).setCell ⟨w.heap.size + 2, 5, none⟩ (.bool x.ok)) = W6 := ⟨_, rfl⟩
  have tt6 : Touch W5 W6 (fun k => k = w.heap.size + 2) := by rw [← hW6]; exact (Touch.setCell (S := fun k => k = w.heap.size + 2) (Touch.setCell (S := fun k => k = w.heap.size + 2) (Touch.setCell (S := fun k => k = w.heap.size + 2) (Touch.setCell (S := fun k => k = w.heap.size + 2) (Touch.setCell (S := fun k => k = w.heap.size + 2) (Touch.setCell (S := fun k => k = w.heap.size + 2) (Touch.refl W5 _) ⟨w.heap.size + 2, 0, none⟩ (.inl rfl) _) ⟨w.heap.size + 2, 1, none⟩ (.inl rfl) _) ⟨w.heap.size + 2, 2, none⟩ (.inl rfl) _) ⟨w.heap.size + 2, 3, none⟩ (.inl rfl) _) ⟨w.heap.size + 2, 4, none⟩ (.inl rfl) _) ⟨w.heap.size + 2, 5, none⟩ (.inl rfl) _)
  have rq : W6.rangeAt (w.heap.size + 2) 0 [Value.int .i64 x.hand, .int .i64 x.act, .int .i64 x.at_, .int .u64 x.had, .int .u64 x.put, .bool x.ok] := by rw [← hW6]; exact rowIs.range (rowIs.setL (rowIs.setL (rowIs.setL (rowIs.setL (rowIs.setL (rowIs.setL RS5.out (i := 0) (by simp) (.int .i64 x.hand)) (i := 1) (by simp) (.int .i64 x.act)) (i := 2) (by simp) (.int .i64 x.at_)) (i := 3) (by simp) (.int .u64 x.had)) (i := 4) (by simp) (.int .u64 x.put)) (i := 5) (by simp) (.bool x.ok)) (by simp)
  have r6 := rangeAt_block r5.out (tt6.block (w.heap.size + 1) (by omega) (by omega))
  have hT := run_loadVar_mid (P := Try.prog) W6 (w.heap.size + 1) 0 _ l2 dT r6 DT1.out DT2.out (by rw [HL2.out.1]; exact size79)
  have hS := run_loadVar_mid (P := Try.prog) W6 (w.heap.size + 2) 0 _ _ dS rq HD2.out.1 HD2.out.2 size46
  try simp only [hW5, hW6]
  refine bodyPost_ret (v := .tuple #[.agg l2.toArray, x.val, .bool en]) ?res rfl ⟨rfl, HR5.out.block (tt6.block g HR5.out.lt (by omega)), ?gro⟩
  case res => exact results_cct (Q := Try.prog) (fn := Try.f42) (t := 4) (t' := 5) (t'' := 6) (W := W6) (by rfl) (by rfl) hT (by rfl) hS
  case gro =>
    have := (Touch.of_grown HG5.out).trans' tt6 (S := fun k => some k = some g) (fun k hk h => absurd hk (by omega))
    exact ⟨this.os, this.tape, this.output, this.size, fun k hk hn => this.block k hk (by simpa using hn)⟩

set_option maxHeartbeats 8000000 in
theorem rp6_no {w : World} {g n cap : Nat} {f f' : Nat → Int} {x : Stp} {s0 s1 s2 s3 s4 s5 hand a b c hh r0 r1 r2 r3 r4 val : Int} {ok : Bool} (hr : IsRow w g n cap f) (hn : 0 ≤ r2 ∧ r2 ≤ 64) (hok : x.ok = false)  {l2 : List Value} {en : Bool} (hl2 : IsTk l2) (hc : ∀ w1 : World, Calls Try.prog 56 #[.agg (tk ⟨s0, s1, s2, s3, s4, s5⟩ hand ⟨4, a, b, c, hh⟩ 6 ⟨r0, r1, r2, r3, r4, 0, 0, 0⟩ ⟨ok, val⟩).toArray, x.val] w1 fun e w' => e = .returned (.tuple #[.agg l2.toArray, x.val, .bool en]) ∧ w1.grownBy w' none) (hx : stepOf n f ⟨hand, 5, 9 + r2, r3, 0, true⟩ = x) (hf' : wordsOf n f ⟨hand, 5, 9 + r2, r3, 0, true⟩ = f') :
    Calls Try.prog 42 #[.agg (tk ⟨s0, s1, s2, s3, s4, s5⟩ hand ⟨4, a, b, c, hh⟩ 6 ⟨r0, r1, r2, r3, r4, 0, 0, 0⟩ ⟨ok, val⟩).toArray, .slice (some ⟨g, 0, none⟩) n cap] w fun e w' =>
      e = .returned (.tuple #[.agg l2.toArray, x.val, .bool en]) ∧ IsRow w' g n cap f' ∧ w.grownBy w' (some g) := by
  have DO := hide (fun (w' : World) (hr' : IsRow w' g n cap f) => ref_do (s := ⟨hand, 5, 9 + r2, r3, 0, true⟩) hr' ⟨Int.le_refl 0, by show (0 : Int) ≤ 18446744073709551615; decide⟩ ⟨by show (1 : Int) ≤ 5; decide, by show (5 : Int) ≤ 5; decide⟩)
  have HX := hide hx
  have HF := hide hf'
  have lg := hr.lt
  obtain ⟨l0, hl0⟩ : ∃ l, tk ⟨s0, s1, s2, s3, s4, s5⟩ hand ⟨4, a, b, c, hh⟩ 6 ⟨r0, r1, r2, r3, r4, 0, 0, 0⟩ ⟨ok, val⟩ = l := ⟨_, rfl⟩
  have hl0' : l0.length = 28 := by rw [← hl0]; rfl
  have hl0i := hide (show IsTk l0 from by rw [← hl0]; exact tk_is _ _ _ _ _ _)
  have hset : l0 = l0 := rfl
  rw [hl0] at hc ⊢
  obtain ⟨W3, hW3, sz3, R0, R1, R2, R3, G3, R4, cell⟩ := RPre.pre hr hl0'
  have HR3 := hide R4
  have g6 : l0[6]? = some (.int .i64 hand) := by rw [← hl0]; rfl
  have g12 : l0[12]? = some (.int .i64 6) := by rw [← hl0]; rfl
  have g15 : l0[15]? = some (.int .u64 r2) := by rw [← hl0]; rfl
  have g16 : l0[16]? = some (.int .u64 r3) := by rw [← hl0]; rfl
  have g17 : l0[17]? = some (.int .u64 r4) := by rw [← hl0]; rfl
  have c6 := cell 6 _ g6
  have c12 := cell 12 _ g12
  have c15 := cell 15 _ g15
  have c16 := cell 16 _ g16
  have c17 := cell 17 _ g17
  have G6 := hide g6
  have G12 := hide g12
  have G15 := hide g15
  have G16 := hide g16
  have G17 := hide g17
  obtain ⟨dT, hdT1, hdT2⟩ := row79
  obtain ⟨dS, hdS1, hdS2⟩ := row46
  have HD := hide (And.intro hdT1 (And.intro hdT2 (And.intro hdS1 hdS2)))
  have HR0 := hide R0
  have HR1 := hide R1
  have HR2 := hide R2
  have HRS := hide R3
  have HG3 := hide G3
  have HSET := hide hset
  have HOK := hide hok
  have HC := hide hc
  have HL2 := hide hl2
  have HL0 := hide hl0'
  have v2 : wrap64 2 = 2 := by unfold wrap64; omega
  have v3 : wrap64 3 = 3 := by unfold wrap64; omega
  have v4 : wrap64 4 = 4 := by unfold wrap64; omega
  have b9 : wrap64 r2 = r2 := by unfold wrap64; omega
  have b8 : IntKind.i64.wrap r2 = r2 := by rw [IntKind.wrap_i64]; omega
  have b10 : wrap64 (9 + r2) = 9 + r2 := by unfold wrap64; omega
  clear hx hf' hr hc hl2 hok R0 R1 R2 R3 R4 G3 cell hset hl0' hl0  hdT1 hdT2 hdS1 hdS2 hn g6 g12 g15 g16 g17
  simp only [tk0, RPre.ZL] at hW3
  go_enter Try.func42, Try.ntmps42
  go_wp2_with fail
  refine (DO.out _ HR3.out).mono ?_
  rintro e w1 ⟨rfl, hr1, hg1⟩
  rw [HX.out]
  rw [HF.out] at hr1
  simp only [Stp.val]
  have sz1 := hg1.size
  obtain ⟨V1, hV1, szV, q1', q2', q3', q4', q5', q6', ⟨⟨z0, zf0⟩, ⟨z1, zf1⟩, ⟨z2, zf2⟩, ⟨z3, zf3⟩, ⟨z4, zf4⟩, z5, zf5⟩, y0, y1, y2, y3, y4, y5⟩ := RPre.aft x HR0.out HR1.out HR2.out HRS.out HG3.out lg sz3 hr1 hg1
  try simp only at hV1 y0 y1 y2 y3 y4 y5
  have HRQ := hide (show V1.rangeAt (w.heap.size + 3) 0 [Value.int .i64 x.hand, .int .i64 x.act, .int .i64 x.at_, .int .u64 x.had, .int .u64 x.put, .bool x.ok] from q1')
  have HR4 := hide q2'
  have HR5 := hide q3'
  have HR6 := hide q4'
  have HR1' := hide q5'
  have HT1 := hide q6'
  have lV : w.heap.size + 3 < V1.heap.size := by omega
  have lV0 : w.heap.size < V1.heap.size := by omega
  have e6 : V1.cell? ⟨w.heap.size, 6, none⟩ = some (.int .i64 hand) := by rw [HR4.out.cell (i := 6) (by omega), lrow_of G6.out]
  have f6 := HR4.out.frozen 6
  have e12 : V1.cell? ⟨w.heap.size, 12, none⟩ = some (.int .i64 6) := by rw [HR4.out.cell (i := 12) (by omega), lrow_of G12.out]
  have f12 := HR4.out.frozen 12
  have e15 : V1.cell? ⟨w.heap.size, 15, none⟩ = some (.int .u64 r2) := by rw [HR4.out.cell (i := 15) (by omega), lrow_of G15.out]
  have f15 := HR4.out.frozen 15
  have e16 : V1.cell? ⟨w.heap.size, 16, none⟩ = some (.int .u64 r3) := by rw [HR4.out.cell (i := 16) (by omega), lrow_of G16.out]
  have f16 := HR4.out.frozen 16
  have e17 : V1.cell? ⟨w.heap.size, 17, none⟩ = some (.int .u64 r4) := by rw [HR4.out.cell (i := 17) (by omega), lrow_of G17.out]
  have f17 := HR4.out.frozen 17
  have l1w : w.heap.size + 3 < w1.heap.size := by omega
  clear hr1 hg1 q1' q2' q3' q4' q5' q6' hW3 c6 c12 c15 c16 c17
  go_upto_region 4 with (fail)
  clear hV1 z0 zf0 z1 zf1 z2 zf2 z3 zf3 z4 zf4 z5 zf5
  have hok := HOK.out
  go_upto_region 6 with (fail)
  clear hok
  obtain ⟨WA, hWA⟩ : ∃ W, V1 = W := ⟨_, rfl⟩
  have tt0 : Touch V1 WA (fun k => k = w.heap.size) := by
    rw [← hWA]
    exact Touch.trans' (S' := fun k => k = w.heap.size) (⟨rfl, rfl, rfl, Nat.le_refl _, fun _ _ _ => rfl⟩ : Touch V1 V1 (fun k => k = w.heap.size)) (Touch.refl V1 _) (fun k _ h => h)
  have szA : WA.heap.size = V1.heap.size := by
    rw [← hWA] <;> first | (simp; done) | rfl | (simp; rfl)
  have rA : WA.rangeAt w.heap.size 0 l0 := by
    have := rowIs.range (show World.rowIs V1 w.heap.size 64 28 (lrow l0) from HR4.out) (by simp [HL0.out])
    rw [hWA] at this
    exact this
  have rB : WA.rangeAt (w.heap.size + 3) 0 [Value.int .i64 x.hand, .int .i64 x.act, .int .i64 x.at_, .int .u64 x.had, .int .u64 x.put, .bool x.ok] := rangeAt_block HRQ.out (tt0.block _ (by omega) (by omega))
  have tC : WA.there (w.heap.size + 1) 0 28 := rowIs.there (HR5.out.of_block (tt0.block _ (by omega) (by omega))) (by omega)
  have tD : WA.there (w.heap.size + 2) 0 6 := rowIs.there (HR6.out.of_block (tt0.block _ (by omega) (by omega))) (by omega)
  have rS6 := HR6.out.of_block (tt0.block _ (by omega) (by omega))
  have rW : IsRow WA g n cap f' := HR1'.out.block (tt0.block g (by omega) (by omega))
  have TW : Touch w WA (fun k => k = g) := HT1.out.trans' tt0 (fun k hk h => absurd hk (by omega))
  first | rw [hWA] | skip
  have HTW := hide TW
  have HRW := hide rW
  clear TW rW hWA tt0
  have x0c : WA.cell? ⟨w.heap.size + 3, 0, none⟩ = some (.int .i64 x.hand) := by have := rB 0 _ rfl; simpa using this
  have x1c : WA.cell? ⟨w.heap.size + 3, 1, none⟩ = some (.int .i64 x.act) := by have := rB 1 _ rfl; simpa using this
  have x2c : WA.cell? ⟨w.heap.size + 3, 2, none⟩ = some (.int .i64 x.at_) := by have := rB 2 _ rfl; simpa using this
  have x3c : WA.cell? ⟨w.heap.size + 3, 3, none⟩ = some (.int .u64 x.had) := by have := rB 3 _ rfl; simpa using this
  have x4c : WA.cell? ⟨w.heap.size + 3, 4, none⟩ = some (.int .u64 x.put) := by have := rB 4 _ rfl; simpa using this
  have x5c : WA.cell? ⟨w.heap.size + 3, 5, none⟩ = some (.bool x.ok) := by have := rB 5 _ rfl; simpa using this
  have lA : w.heap.size + 3 < WA.heap.size := by omega
  have RAh := hide rA
  have HCW := hide (HC.out WA)
  have TCh := hide tC
  have HR7 := hide (HR6.out)
  have rD6 := hide (show WA.rowIs (w.heap.size + 2) 71 6 (lrow [Value.int .i64 0, .int .i64 0, .int .i64 0, .int .u64 0, .int .u64 0, .bool false]) from rS6)
  simp only [Stp.val] at HCW
  clear rA rB tC tD HC HR7 y0 y1 y2 y3 y4 y5 e6 f6 e12 f12 e15 f15 e16 f16 e17 f17
  go_wp2_with (refine wpList_load_mid (by rfl) 64 (.tmp 2) (by rfl) w.heap.size 0 (by rfl) l0 dT (by exact RAh.out) (by exact HD.out.1) (by exact HD.out.2.1) (by rw [hl0i.out.1]; exact size79) ?_)
  try clear b7
  try clear hm2
  clear b8 b9 b10 v2 v3 v4
  refine HCW.out.mono ?_
  rintro e w1' ⟨rfl, hg1⟩
  have sz1' := hg1.size
  have HT1' := hide (there_block TCh.out (hg1.block (w.heap.size + 1) (by omega) (by simp)))
  have RS := hide (rD6.out.of_block (hg1.block (w.heap.size + 2) (by omega) (by simp)))
  have HRW' := hide (HRW.out.block (hg1.block g HRW.out.lt (by simp)))
  have HGW := hide (show w.grownBy w1' (some g) from by
    have := HTW.out.trans' (Touch.of_grown_none hg1 (fun k => k = g)) (fun k hk h => h)
    exact ⟨this.os, this.tape, this.output, this.size, fun k hk hn => this.block k hk (by simpa using hn)⟩)
  have l2' : w.heap.size + 2 < w1'.heap.size := by omega
  have DT1 := hide HD.out.1
  have DT2 := hide HD.out.2.1
  have HD2 := hide (And.intro HD.out.2.2.1 HD.out.2.2.2)
  clear hg1 HCW x0c x1c x2c x3c x4c x5c RAh TCh rD6 HTW HRW HT1
  obtain ⟨W5, hW5⟩ : ∃ W5, w1'.setCells (w.heap.size + 1) 0 l2 = W5 := ⟨_, rfl⟩
  have tt5 : Touch w1' W5 (fun k => k = w.heap.size + 1) := by rw [← hW5]; exact touch_setCells _ _ _ _
  have r5 := hide (show W5.rangeAt (w.heap.size + 1) 0 l2 from by rw [← hW5]; exact World.rangeAt_setCells_same w1' (w.heap.size + 1) 0 l2 (by rw [HL2.out.1]; exact HT1'.out))
  have RS5 := hide (RS.out.of_block (tt5.block _ (by omega) (by omega)))
  have HR5 := hide (HRW'.out.block (tt5.block g HRW'.out.lt (by omega)))
  have HG5 := hide (show w.grownBy W5 (some g) from by
    have := (Touch.of_grown HGW.out).trans' tt5 (S := fun k => some k = some g) (fun k hk h => absurd hk (by omega))
    exact ⟨this.os, this.tape, this.output, this.size, fun k hk hn => this.block k hk (by simpa using hn)⟩)
  have l5 : w.heap.size + 2 < W5.heap.size := by have := tt5.size; omega
  have z0 : W5.cell? ⟨w.heap.size + 2, 0, none⟩ = some (.int .i64 0) := by rw [RS5.out.cell (i := 0) (by omega)]; rfl
  have zf0 := RS5.out.frozen 0
  have z1 : W5.cell? ⟨w.heap.size + 2, 1, none⟩ = some (.int .i64 0) := by rw [RS5.out.cell (i := 1) (by omega)]; rfl
  have zf1 := RS5.out.frozen 1
  have z2 : W5.cell? ⟨w.heap.size + 2, 2, none⟩ = some (.int .i64 0) := by rw [RS5.out.cell (i := 2) (by omega)]; rfl
  have zf2 := RS5.out.frozen 2
  have z3 : W5.cell? ⟨w.heap.size + 2, 3, none⟩ = some (.int .u64 0) := by rw [RS5.out.cell (i := 3) (by omega)]; rfl
  have zf3 := RS5.out.frozen 3
  have z4 : W5.cell? ⟨w.heap.size + 2, 4, none⟩ = some (.int .u64 0) := by rw [RS5.out.cell (i := 4) (by omega)]; rfl
  have zf4 := RS5.out.frozen 4
  have z5 : W5.cell? ⟨w.heap.size + 2, 5, none⟩ = some (.bool false) := by rw [RS5.out.cell (i := 5) (by omega)]; rfl
  have zf5 := RS5.out.frozen 5
  clear tt5 RS HGW
  simp only [Stp.val]
  go_wp2_with (refine wpList_store_mid (by rfl) 64 (.tmp 4) (.tmp 37) (by rfl) (w.heap.size + 1) 0 l2.toArray (by rfl) (by rfl) (by simpa [HL2.out.1] using HT1'.out) (by simpa [HL2.out.1] using size79) (by exact all_oneCell_toArray HL2.out.2) ?_)
  obtain ⟨W6, hW6⟩ : ∃ W6, ((((((W5.setCell ⟨w.heap.size + 2, 0, none⟩ (.int .i64 x.hand)).setCell ⟨w.heap.size + 2, 1, none⟩ (.int .i64 x.act)).setCell ⟨w.heap.size + 2, 2, none⟩ (.int .i64 x.at_)).setCell ⟨w.heap.size + 2, 3, none⟩ (.int .u64 x.had)).setCell ⟨w.heap.size + 2, 4, none⟩ (.int .u64 x.put)).setCell ⟨w.heap.size + 2, 5, none⟩ (.bool x.ok)) = W6 := ⟨_, rfl⟩
  have tt6 : Touch W5 W6 (fun k => k = w.heap.size + 2) := by rw [← hW6]; exact (Touch.setCell (S := fun k => k = w.heap.size + 2) (Touch.setCell (S := fun k => k = w.heap.size + 2) (Touch.setCell (S := fun k => k = w.heap.size + 2) (Touch.setCell (S := fun k => k = w.heap.size + 2) (Touch.setCell (S := fun k => k = w.heap.size + 2) (Touch.setCell (S := fun k => k = w.heap.size + 2) (Touch.refl W5 _) ⟨w.heap.size + 2, 0, none⟩ (.inl rfl) _) ⟨w.heap.size + 2, 1, none⟩ (.inl rfl) _) ⟨w.heap.size + 2, 2, none⟩ (.inl rfl) _) ⟨w.heap.size + 2, 3, none⟩ (.inl rfl) _) ⟨w.heap.size + 2, 4, none⟩ (.inl rfl) _) ⟨w.heap.size + 2, 5, none⟩ (.inl rfl) _)
  have rq : W6.rangeAt (w.heap.size + 2) 0 [Value.int .i64 x.hand, .int .i64 x.act, .int .i64 x.at_, .int .u64 x.had, .int .u64 x.put, .bool x.ok] := by rw [← hW6]; exact rowIs.range (rowIs.setL (rowIs.setL (rowIs.setL (rowIs.setL (rowIs.setL (rowIs.setL RS5.out (i := 0) (by simp) (.int .i64 x.hand)) (i := 1) (by simp) (.int .i64 x.act)) (i := 2) (by simp) (.int .i64 x.at_)) (i := 3) (by simp) (.int .u64 x.had)) (i := 4) (by simp) (.int .u64 x.put)) (i := 5) (by simp) (.bool x.ok)) (by simp)
  have r6 := rangeAt_block r5.out (tt6.block (w.heap.size + 1) (by omega) (by omega))
  have hT := run_loadVar_mid (P := Try.prog) W6 (w.heap.size + 1) 0 _ l2 dT r6 DT1.out DT2.out (by rw [HL2.out.1]; exact size79)
  have hS := run_loadVar_mid (P := Try.prog) W6 (w.heap.size + 2) 0 _ _ dS rq HD2.out.1 HD2.out.2 size46
  try simp only [hW5, hW6]
  refine bodyPost_ret (v := .tuple #[.agg l2.toArray, x.val, .bool en]) ?res rfl ⟨rfl, HR5.out.block (tt6.block g HR5.out.lt (by omega)), ?gro⟩
  case res => exact results_cct (Q := Try.prog) (fn := Try.f42) (t := 4) (t' := 5) (t'' := 6) (W := W6) (by rfl) (by rfl) hT (by rfl) hS
  case gro =>
    have := (Touch.of_grown HG5.out).trans' tt6 (S := fun k => some k = some g) (fun k hk h => absurd hk (by omega))
    exact ⟨this.os, this.tape, this.output, this.size, fun k hk hn => this.block k hk (by simpa using hn)⟩

set_option maxHeartbeats 8000000 in
theorem rp6_ok {w : World} {g n cap : Nat} {f f' : Nat → Int} {x : Stp} {s0 s1 s2 s3 s4 s5 hand a b c hh r0 r1 r2 r3 r4 val : Int} {ok : Bool} (hr : IsRow w g n cap f) (hn : 0 ≤ r2 ∧ r2 ≤ 64) {m2 : Int} (hm2 : bits .or .u64 r4 (IntKind.u64.wrap (2 ^ r2.toNat)) = m2) (hn6 : r2 < 64) (hok : x.ok = true)  {l2 : List Value} {en : Bool} (hl2 : IsTk l2) (hc : ∀ w1 : World, Calls Try.prog 56 #[.agg (tk ⟨s0, s1, s2, s3, s4, s5⟩ hand ⟨4, a, b, c, hh⟩ 6 ⟨r0, r1, r2, r3, m2, 0, 0, 0⟩ ⟨ok, val⟩).toArray, x.val] w1 fun e w' => e = .returned (.tuple #[.agg l2.toArray, x.val, .bool en]) ∧ w1.grownBy w' none) (hx : stepOf n f ⟨hand, 5, 9 + r2, r3, 0, true⟩ = x) (hf' : wordsOf n f ⟨hand, 5, 9 + r2, r3, 0, true⟩ = f') :
    Calls Try.prog 42 #[.agg (tk ⟨s0, s1, s2, s3, s4, s5⟩ hand ⟨4, a, b, c, hh⟩ 6 ⟨r0, r1, r2, r3, r4, 0, 0, 0⟩ ⟨ok, val⟩).toArray, .slice (some ⟨g, 0, none⟩) n cap] w fun e w' =>
      e = .returned (.tuple #[.agg l2.toArray, x.val, .bool en]) ∧ IsRow w' g n cap f' ∧ w.grownBy w' (some g) := by
  have DO := hide (fun (w' : World) (hr' : IsRow w' g n cap f) => ref_do (s := ⟨hand, 5, 9 + r2, r3, 0, true⟩) hr' ⟨Int.le_refl 0, by show (0 : Int) ≤ 18446744073709551615; decide⟩ ⟨by show (1 : Int) ≤ 5; decide, by show (5 : Int) ≤ 5; decide⟩)
  have HX := hide hx
  have HF := hide hf'
  have lg := hr.lt
  obtain ⟨l0, hl0⟩ : ∃ l, tk ⟨s0, s1, s2, s3, s4, s5⟩ hand ⟨4, a, b, c, hh⟩ 6 ⟨r0, r1, r2, r3, r4, 0, 0, 0⟩ ⟨ok, val⟩ = l := ⟨_, rfl⟩
  have hl0' : l0.length = 28 := by rw [← hl0]; rfl
  have hl0i := hide (show IsTk l0 from by rw [← hl0]; exact tk_is _ _ _ _ _ _)
  have hset : (l0.set 17 (.int .u64 m2)) = tk ⟨s0, s1, s2, s3, s4, s5⟩ hand ⟨4, a, b, c, hh⟩ 6 ⟨r0, r1, r2, r3, m2, 0, 0, 0⟩ ⟨ok, val⟩ := by rw [← hl0] <;> rfl
  obtain ⟨l1, hl1⟩ : ∃ l, tk ⟨s0, s1, s2, s3, s4, s5⟩ hand ⟨4, a, b, c, hh⟩ 6 ⟨r0, r1, r2, r3, m2, 0, 0, 0⟩ ⟨ok, val⟩ = l := ⟨_, rfl⟩
  rw [hl0]
  rw [hl1] at hc
  rw [hl1] at hset
  have hl1i := hide (show IsTk l1 from by rw [← hl1]; exact tk_is _ _ _ _ _ _)
  obtain ⟨W3, hW3, sz3, R0, R1, R2, R3, G3, R4, cell⟩ := RPre.pre hr hl0'
  have HR3 := hide R4
  have g6 : l0[6]? = some (.int .i64 hand) := by rw [← hl0]; rfl
  have g12 : l0[12]? = some (.int .i64 6) := by rw [← hl0]; rfl
  have g15 : l0[15]? = some (.int .u64 r2) := by rw [← hl0]; rfl
  have g16 : l0[16]? = some (.int .u64 r3) := by rw [← hl0]; rfl
  have g17 : l0[17]? = some (.int .u64 r4) := by rw [← hl0]; rfl
  have c6 := cell 6 _ g6
  have c12 := cell 12 _ g12
  have c15 := cell 15 _ g15
  have c16 := cell 16 _ g16
  have c17 := cell 17 _ g17
  have G6 := hide g6
  have G12 := hide g12
  have G15 := hide g15
  have G16 := hide g16
  have G17 := hide g17
  obtain ⟨dT, hdT1, hdT2⟩ := row79
  obtain ⟨dS, hdS1, hdS2⟩ := row46
  have HD := hide (And.intro hdT1 (And.intro hdT2 (And.intro hdS1 hdS2)))
  have HR0 := hide R0
  have HR1 := hide R1
  have HR2 := hide R2
  have HRS := hide R3
  have HG3 := hide G3
  have HSET := hide hset
  have HOK := hide hok
  have HC := hide hc
  have HL2 := hide hl2
  have HL0 := hide hl0'
  have v2 : wrap64 2 = 2 := by unfold wrap64; omega
  have v3 : wrap64 3 = 3 := by unfold wrap64; omega
  have v4 : wrap64 4 = 4 := by unfold wrap64; omega
  have b9 : wrap64 r2 = r2 := by unfold wrap64; omega
  have b8 : IntKind.i64.wrap r2 = r2 := by rw [IntKind.wrap_i64]; omega
  have b10 : wrap64 (9 + r2) = 9 + r2 := by unfold wrap64; omega
  have hn0 : 0 ≤ r2 := hn.1
  clear hx hf' hr hc hl2 hok R0 R1 R2 R3 R4 G3 cell hset hl0' hl0 hl1 hdT1 hdT2 hdS1 hdS2 hn g6 g12 g15 g16 g17
  simp only [tk0, RPre.ZL] at hW3
  go_enter Try.func42, Try.ntmps42
  go_wp2_with fail
  refine (DO.out _ HR3.out).mono ?_
  rintro e w1 ⟨rfl, hr1, hg1⟩
  rw [HX.out]
  rw [HF.out] at hr1
  simp only [Stp.val]
  have sz1 := hg1.size
  obtain ⟨V1, hV1, szV, q1', q2', q3', q4', q5', q6', ⟨⟨z0, zf0⟩, ⟨z1, zf1⟩, ⟨z2, zf2⟩, ⟨z3, zf3⟩, ⟨z4, zf4⟩, z5, zf5⟩, y0, y1, y2, y3, y4, y5⟩ := RPre.aft x HR0.out HR1.out HR2.out HRS.out HG3.out lg sz3 hr1 hg1
  try simp only at hV1 y0 y1 y2 y3 y4 y5
  have HRQ := hide (show V1.rangeAt (w.heap.size + 3) 0 [Value.int .i64 x.hand, .int .i64 x.act, .int .i64 x.at_, .int .u64 x.had, .int .u64 x.put, .bool x.ok] from q1')
  have HR4 := hide q2'
  have HR5 := hide q3'
  have HR6 := hide q4'
  have HR1' := hide q5'
  have HT1 := hide q6'
  have lV : w.heap.size + 3 < V1.heap.size := by omega
  have lV0 : w.heap.size < V1.heap.size := by omega
  have e6 : V1.cell? ⟨w.heap.size, 6, none⟩ = some (.int .i64 hand) := by rw [HR4.out.cell (i := 6) (by omega), lrow_of G6.out]
  have f6 := HR4.out.frozen 6
  have e12 : V1.cell? ⟨w.heap.size, 12, none⟩ = some (.int .i64 6) := by rw [HR4.out.cell (i := 12) (by omega), lrow_of G12.out]
  have f12 := HR4.out.frozen 12
  have e15 : V1.cell? ⟨w.heap.size, 15, none⟩ = some (.int .u64 r2) := by rw [HR4.out.cell (i := 15) (by omega), lrow_of G15.out]
  have f15 := HR4.out.frozen 15
  have e16 : V1.cell? ⟨w.heap.size, 16, none⟩ = some (.int .u64 r3) := by rw [HR4.out.cell (i := 16) (by omega), lrow_of G16.out]
  have f16 := HR4.out.frozen 16
  have e17 : V1.cell? ⟨w.heap.size, 17, none⟩ = some (.int .u64 r4) := by rw [HR4.out.cell (i := 17) (by omega), lrow_of G17.out]
  have f17 := HR4.out.frozen 17
  have l1w : w.heap.size + 3 < w1.heap.size := by omega
  clear hr1 hg1 q1' q2' q3' q4' q5' q6' hW3 c6 c12 c15 c16 c17
  go_upto_region 4 with (fail)
  clear hV1 z0 zf0 z1 zf1 z2 zf2 z3 zf3 z4 zf4 z5 zf5
  have hok := HOK.out
  go_upto_region 6 with (fail)
  clear hok
  obtain ⟨WA, hWA⟩ : ∃ W, (V1.setCell ⟨w.heap.size, 17, none⟩ (.int .u64 m2)) = W := ⟨_, rfl⟩
  have tt0 : Touch V1 WA (fun k => k = w.heap.size) := by
    rw [← hWA]
    exact Touch.trans' (S' := fun k => k = w.heap.size) (⟨rfl, rfl, rfl, Nat.le_refl _, fun _ _ _ => rfl⟩ : Touch V1 V1 (fun k => k = w.heap.size)) (Touch.setCell (S := fun k => k = w.heap.size) (Touch.refl V1 _) ⟨w.heap.size, 17, none⟩ (.inl rfl) _) (fun k _ h => h)
  have szA : WA.heap.size = V1.heap.size := by
    rw [← hWA] <;> first | (simp; done) | rfl | (simp; rfl)
  have rA : WA.rangeAt w.heap.size 0 l1 := by
    have := rowIs.range (rowIs.setL (show World.rowIs V1 w.heap.size 64 28 (lrow l0) from HR4.out) (i := 17) (by simp [HL0.out]) (.int .u64 m2)) (by simp [HL0.out])
    rw [HSET.out, hWA] at this
    exact this
  have rB : WA.rangeAt (w.heap.size + 3) 0 [Value.int .i64 x.hand, .int .i64 x.act, .int .i64 x.at_, .int .u64 x.had, .int .u64 x.put, .bool x.ok] := rangeAt_block HRQ.out (tt0.block _ (by omega) (by omega))
  have tC : WA.there (w.heap.size + 1) 0 28 := rowIs.there (HR5.out.of_block (tt0.block _ (by omega) (by omega))) (by omega)
  have tD : WA.there (w.heap.size + 2) 0 6 := rowIs.there (HR6.out.of_block (tt0.block _ (by omega) (by omega))) (by omega)
  have rS6 := HR6.out.of_block (tt0.block _ (by omega) (by omega))
  have rW : IsRow WA g n cap f' := HR1'.out.block (tt0.block g (by omega) (by omega))
  have TW : Touch w WA (fun k => k = g) := HT1.out.trans' tt0 (fun k hk h => absurd hk (by omega))
  first | rw [hWA] | skip
  have HTW := hide TW
  have HRW := hide rW
  clear TW rW hWA tt0
  have x0c : WA.cell? ⟨w.heap.size + 3, 0, none⟩ = some (.int .i64 x.hand) := by have := rB 0 _ rfl; simpa using this
  have x1c : WA.cell? ⟨w.heap.size + 3, 1, none⟩ = some (.int .i64 x.act) := by have := rB 1 _ rfl; simpa using this
  have x2c : WA.cell? ⟨w.heap.size + 3, 2, none⟩ = some (.int .i64 x.at_) := by have := rB 2 _ rfl; simpa using this
  have x3c : WA.cell? ⟨w.heap.size + 3, 3, none⟩ = some (.int .u64 x.had) := by have := rB 3 _ rfl; simpa using this
  have x4c : WA.cell? ⟨w.heap.size + 3, 4, none⟩ = some (.int .u64 x.put) := by have := rB 4 _ rfl; simpa using this
  have x5c : WA.cell? ⟨w.heap.size + 3, 5, none⟩ = some (.bool x.ok) := by have := rB 5 _ rfl; simpa using this
  have lA : w.heap.size + 3 < WA.heap.size := by omega
  have RAh := hide rA
  have HCW := hide (HC.out WA)
  have TCh := hide tC
  have HR7 := hide (HR6.out)
  have rD6 := hide (show WA.rowIs (w.heap.size + 2) 71 6 (lrow [Value.int .i64 0, .int .i64 0, .int .i64 0, .int .u64 0, .int .u64 0, .bool false]) from rS6)
  simp only [Stp.val] at HCW
  clear rA rB tC tD HC HR7 y0 y1 y2 y3 y4 y5 e6 f6 e12 f12 e15 f15 e16 f16 e17 f17
  go_wp2_with (refine wpList_load_mid (by rfl) 64 (.tmp 2) (by rfl) w.heap.size 0 (by rfl) l1 dT (by exact RAh.out) (by exact HD.out.1) (by exact HD.out.2.1) (by rw [hl1i.out.1]; exact size79) ?_)
  try clear b7
  try clear hm2
  clear b8 b9 b10 v2 v3 v4
  refine HCW.out.mono ?_
  rintro e w1' ⟨rfl, hg1⟩
  have sz1' := hg1.size
  have HT1' := hide (there_block TCh.out (hg1.block (w.heap.size + 1) (by omega) (by simp)))
  have RS := hide (rD6.out.of_block (hg1.block (w.heap.size + 2) (by omega) (by simp)))
  have HRW' := hide (HRW.out.block (hg1.block g HRW.out.lt (by simp)))
  have HGW := hide (show w.grownBy w1' (some g) from by
    have := HTW.out.trans' (Touch.of_grown_none hg1 (fun k => k = g)) (fun k hk h => h)
    exact ⟨this.os, this.tape, this.output, this.size, fun k hk hn => this.block k hk (by simpa using hn)⟩)
  have l2' : w.heap.size + 2 < w1'.heap.size := by omega
  have DT1 := hide HD.out.1
  have DT2 := hide HD.out.2.1
  have HD2 := hide (And.intro HD.out.2.2.1 HD.out.2.2.2)
  clear hg1 HCW x0c x1c x2c x3c x4c x5c RAh TCh rD6 HTW HRW HT1
  obtain ⟨W5, hW5⟩ : ∃ W5, w1'.setCells (w.heap.size + 1) 0 l2 = W5 := ⟨_, rfl⟩
  have tt5 : Touch w1' W5 (fun k => k = w.heap.size + 1) := by rw [← hW5]; exact touch_setCells _ _ _ _
  have r5 := hide (show W5.rangeAt (w.heap.size + 1) 0 l2 from by rw [← hW5]; exact World.rangeAt_setCells_same w1' (w.heap.size + 1) 0 l2 (by rw [HL2.out.1]; exact HT1'.out))
  have RS5 := hide (RS.out.of_block (tt5.block _ (by omega) (by omega)))
  have HR5 := hide (HRW'.out.block (tt5.block g HRW'.out.lt (by omega)))
  have HG5 := hide (show w.grownBy W5 (some g) from by
    have := (Touch.of_grown HGW.out).trans' tt5 (S := fun k => some k = some g) (fun k hk h => absurd hk (by omega))
    exact ⟨this.os, this.tape, this.output, this.size, fun k hk hn => this.block k hk (by simpa using hn)⟩)
  have l5 : w.heap.size + 2 < W5.heap.size := by have := tt5.size; omega
  have z0 : W5.cell? ⟨w.heap.size + 2, 0, none⟩ = some (.int .i64 0) := by rw [RS5.out.cell (i := 0) (by omega)]; rfl
  have zf0 := RS5.out.frozen 0
  have z1 : W5.cell? ⟨w.heap.size + 2, 1, none⟩ = some (.int .i64 0) := by rw [RS5.out.cell (i := 1) (by omega)]; rfl
  have zf1 := RS5.out.frozen 1
  have z2 : W5.cell? ⟨w.heap.size + 2, 2, none⟩ = some (.int .i64 0) := by rw [RS5.out.cell (i := 2) (by omega)]; rfl
  have zf2 := RS5.out.frozen 2
  have z3 : W5.cell? ⟨w.heap.size + 2, 3, none⟩ = some (.int .u64 0) := by rw [RS5.out.cell (i := 3) (by omega)]; rfl
  have zf3 := RS5.out.frozen 3
  have z4 : W5.cell? ⟨w.heap.size + 2, 4, none⟩ = some (.int .u64 0) := by rw [RS5.out.cell (i := 4) (by omega)]; rfl
  have zf4 := RS5.out.frozen 4
  have z5 : W5.cell? ⟨w.heap.size + 2, 5, none⟩ = some (.bool false) := by rw [RS5.out.cell (i := 5) (by omega)]; rfl
  have zf5 := RS5.out.frozen 5
  clear tt5 RS HGW
  simp only [Stp.val]
  go_wp2_with (refine wpList_store_mid (by rfl) 64 (.tmp 4) (.tmp 37) (by rfl) (w.heap.size + 1) 0 l2.toArray (by rfl) (by rfl) (by simpa [HL2.out.1] using HT1'.out) (by simpa [HL2.out.1] using size79) (by exact all_oneCell_toArray HL2.out.2) ?_)
  obtain ⟨W6, hW6⟩ : ∃ W6, ((((((W5.setCell ⟨w.heap.size + 2, 0, none⟩ (.int .i64 x.hand)).setCell ⟨w.heap.size + 2, 1, none⟩ (.int .i64 x.act)).setCell ⟨w.heap.size + 2, 2, none⟩ (.int .i64 x.at_)).setCell ⟨w.heap.size + 2, 3, none⟩ (.int .u64 x.had)).setCell ⟨w.heap.size + 2, 4, none⟩ (.int .u64 x.put)).setCell ⟨w.heap.size + 2, 5, none⟩ (.bool x.ok)) = W6 := ⟨_, rfl⟩
  have tt6 : Touch W5 W6 (fun k => k = w.heap.size + 2) := by rw [← hW6]; exact (Touch.setCell (S := fun k => k = w.heap.size + 2) (Touch.setCell (S := fun k => k = w.heap.size + 2) (Touch.setCell (S := fun k => k = w.heap.size + 2) (Touch.setCell (S := fun k => k = w.heap.size + 2) (Touch.setCell (S := fun k => k = w.heap.size + 2) (Touch.setCell (S := fun k => k = w.heap.size + 2) (Touch.refl W5 _) ⟨w.heap.size + 2, 0, none⟩ (.inl rfl) _) ⟨w.heap.size + 2, 1, none⟩ (.inl rfl) _) ⟨w.heap.size + 2, 2, none⟩ (.inl rfl) _) ⟨w.heap.size + 2, 3, none⟩ (.inl rfl) _) ⟨w.heap.size + 2, 4, none⟩ (.inl rfl) _) ⟨w.heap.size + 2, 5, none⟩ (.inl rfl) _)
  have rq : W6.rangeAt (w.heap.size + 2) 0 [Value.int .i64 x.hand, .int .i64 x.act, .int .i64 x.at_, .int .u64 x.had, .int .u64 x.put, .bool x.ok] := by rw [← hW6]; exact rowIs.range (rowIs.setL (rowIs.setL (rowIs.setL (rowIs.setL (rowIs.setL (rowIs.setL RS5.out (i := 0) (by simp) (.int .i64 x.hand)) (i := 1) (by simp) (.int .i64 x.act)) (i := 2) (by simp) (.int .i64 x.at_)) (i := 3) (by simp) (.int .u64 x.had)) (i := 4) (by simp) (.int .u64 x.put)) (i := 5) (by simp) (.bool x.ok)) (by simp)
  have r6 := rangeAt_block r5.out (tt6.block (w.heap.size + 1) (by omega) (by omega))
  have hT := run_loadVar_mid (P := Try.prog) W6 (w.heap.size + 1) 0 _ l2 dT r6 DT1.out DT2.out (by rw [HL2.out.1]; exact size79)
  have hS := run_loadVar_mid (P := Try.prog) W6 (w.heap.size + 2) 0 _ _ dS rq HD2.out.1 HD2.out.2 size46
  try simp only [hW5, hW6]
  refine bodyPost_ret (v := .tuple #[.agg l2.toArray, x.val, .bool en]) ?res rfl ⟨rfl, HR5.out.block (tt6.block g HR5.out.lt (by omega)), ?gro⟩
  case res => exact results_cct (Q := Try.prog) (fn := Try.f42) (t := 4) (t' := 5) (t'' := 6) (W := W6) (by rfl) (by rfl) hT (by rfl) hS
  case gro =>
    have := (Touch.of_grown HG5.out).trans' tt6 (S := fun k => some k = some g) (fun k hk h => absurd hk (by omega))
    exact ⟨this.os, this.tape, this.output, this.size, fun k hk hn => this.block k hk (by simpa using hn)⟩

end Epoch
end Go.Proofs.Ytdflicgjkleonaa
