/-
  Lemmas: RoomSA.
-/
import Derived.Test.YtmikhglnomgbfaaGreatTp45
import Derived.Test.YtmikhglnomgbfaaGreatTp20
import Derived.Test.YtmikhglnomgbfaaGreatTp18
import Derived.Test.YtmikhglnomgbfaaGreatTp22
namespace Go.Proofs.YtmikhglnomgbfaaGreat
set_option maxHeartbeats 8000000
open Go.RowKit
set_option linter.unusedVariables false
set_option linter.unusedSimpArgs false
set_option linter.unnecessarySimpa false
set_option maxRecDepth 20000
section
namespace Rom
open Hp
section
variable {P : Program} {Q : Exit → Act → World → Prop} {ops : Array Oper} {ks : List (Nat × Nat)} {vals : Nat → Value} {WI : World → Prop} {a0 : Act} {i : Nat} {o : Oper}
theorem ot {j d : Nat} {b b' : Bool} (h : o.guard = some (j, b)) (hl : o.dst = Reg.look ks i) (hu : vals i = undef) (hd : (ops[j]?).bind (·.dst) = some d) (hj : j < i) (hp : RetN.pv ks vals j = some (d, .bool b')) (hne : (b' == b) = false) (hds : d < a0.tmps.size) : RSq.Does P Q ops ks vals WI a0 i o ∨ RSk.Skip ops ks vals WI a0 i o := .inr (RSk.other h hne hl hu hd hj hp hds)
theorem gn {j d : Nat} {b : Bool} (h : o.guard = some (j, b)) (hl : o.dst = Reg.look ks i) (hu : vals i = undef) (hd : (ops[j]?).bind (·.dst) = some d) (hj : j < i) (hp : RetN.pv ks vals j = some (d, undef)) (hds : d < a0.tmps.size) : RSq.Does P Q ops ks vals WI a0 i o ∨ RSk.Skip ops ks vals WI a0 i o := .inr (RSk.gone h hl hu hd hj hp hds)
theorem rf (hd : o.dst = Reg.look ks i) (hg : o.guard = none) (h : ∀ a w, RSq.In ks vals WI a0 i a w → (execOp a.eval o).run P w = .ok (.value (vals i)) w) : RSq.Does P Q ops ks vals WI a0 i o ∨ RSk.Skip ops ks vals WI a0 i o := .inl (RSq.Does.read hd (RSq.free hg) h)
theorem rh {j d : Nat} {b : Bool} (hd : o.dst = Reg.look ks i) (hg : o.guard = some (j, b)) (hb : (ops[j]?).bind (·.dst) = some d) (hj : j < i) (hp : RetN.pv ks vals j = some (d, .bool b)) (hds : d < a0.tmps.size) (h : ∀ a w, RSq.In ks vals WI a0 i a w → (execOp a.eval o).run P w = .ok (.value (vals i)) w) : RSq.Does P Q ops ks vals WI a0 i o ∨ RSk.Skip ops ks vals WI a0 i o := .inl (RSq.Does.read hd (RSq.held hg hb hj hp hds) h)
end
theorem st_pre (w : World) (s0 s1 s2 s3 s4 s5 kind a b c hh : Int) : ∃ W4, (((w.alloc (.cells #[.int .i64 s0, .int .i64 s1, .int .i64 s2, .int .i64 s3, .int .i64 s4, .int .i64 s5] 23)).alloc (.cells #[.int .i64 kind, .int .i64 a, .int .i64 b, .int .i64 c, .int .u64 hh] 52)).alloc (.cells #[.int .u64 0, .int .u64 0, .int .u64 0, .int .u64 0] 57)).alloc (.cells #[.int .i64 0, .int .i64 0, .int .i64 0, .int .i64 0, .int .i64 0, .int .i64 0, .int .i64 0, .int .i64 0, .int .i64 0, .int .i64 0, .int .i64 0, .int .u64 0, .int .i64 0, .int .u64 0, .int .u64 0, .int .u64 0, .int .u64 0, .int .u64 0, .int .u64 0, .int .u64 0, .int .u64 0, .slice none 0 0, .bool false, .int .u64 0, .int .u64 0, .int .u64 0, .int .u64 0, .int .u64 0] 59) = W4 ∧ W4.there (w.heap.size + 3) 0 28 ∧ W4.heap.size = w.heap.size + 4 ∧ Hid (Below w.heap.size w W4) ∧ W4.rangeAt w.heap.size 0 [.int .i64 s0, .int .i64 s1, .int .i64 s2, .int .i64 s3, .int .i64 s4, .int .i64 s5] ∧ W4.rangeAt (w.heap.size + 1) 0 [.int .i64 kind, .int .i64 a, .int .i64 b, .int .i64 c, .int .u64 hh] := by
 obtain ⟨W4, hW4⟩ : ∃ W4, (((w.alloc (.cells #[.int .i64 s0, .int .i64 s1, .int .i64 s2, .int .i64 s3, .int .i64 s4, .int .i64 s5] 23)).alloc (.cells #[.int .i64 kind, .int .i64 a, .int .i64 b, .int .i64 c, .int .u64 hh] 52)).alloc (.cells #[.int .u64 0, .int .u64 0, .int .u64 0, .int .u64 0] 57)).alloc (.cells #[.int .i64 0, .int .i64 0, .int .i64 0, .int .i64 0, .int .i64 0, .int .i64 0, .int .i64 0, .int .i64 0, .int .i64 0, .int .i64 0, .int .i64 0, .int .u64 0, .int .i64 0, .int .u64 0, .int .u64 0, .int .u64 0, .int .u64 0, .int .u64 0, .int .u64 0, .int .u64 0, .int .u64 0, .slice none 0 0, .bool false, .int .u64 0, .int .u64 0, .int .u64 0, .int .u64 0, .int .u64 0] 59) = W4 := ⟨_, rfl⟩
 have th : W4.there (w.heap.size + 3) 0 28 := by
  rw [← hW4]
  have := there_alloc_new (w := (((w.alloc (.cells #[.int .i64 s0, .int .i64 s1, .int .i64 s2, .int .i64 s3, .int .i64 s4, .int .i64 s5] 23)).alloc (.cells #[.int .i64 kind, .int .i64 a, .int .i64 b, .int .i64 c, .int .u64 hh] 52)).alloc (.cells #[.int .u64 0, .int .u64 0, .int .u64 0, .int .u64 0] 57))) (t := 59) (cs := tk0)
  simpa [tk0] using this
 have sz4 : W4.heap.size = w.heap.size + 4 := by rw [← hW4]; simp
 have B4 := hide (show Below w.heap.size w W4 from by rw [← hW4]; exact ((((Below.refl _ w).alloc (Nat.le_refl _) _).alloc (by simp) _).alloc (by simp; omega) _).alloc (by simp; omega) _)
 have r0 : W4.rangeAt w.heap.size 0 [.int .i64 s0, .int .i64 s1, .int .i64 s2, .int .i64 s3, .int .i64 s4, .int .i64 s5] := by rw [← hW4]; exact World.rangeAt_alloc (World.rangeAt_alloc (World.rangeAt_alloc (cell_range (b := 0)) _) _) _
 have r1 : W4.rangeAt (w.heap.size + 1) 0 [.int .i64 kind, .int .i64 a, .int .i64 b, .int .i64 c, .int .u64 hh] := by
  rw [← hW4]
  have := cell_range (b := 0) (w := w.alloc (.cells #[.int .i64 s0, .int .i64 s1, .int .i64 s2, .int .i64 s3, .int .i64 s4, .int .i64 s5] 23)) (t := 52) (cs := [.int .i64 kind, .int .i64 a, .int .i64 b, .int .i64 c, .int .u64 hh])
  rw [World.size_alloc] at this
  exact World.rangeAt_alloc (World.rangeAt_alloc this _) _
 exact ⟨W4, hW4, th, sz4, B4, r0, r1⟩
theorem rst_make (w : World) (s0 s1 s2 s3 s4 s5 hand a b c hh : Int) (hb : b = 0 ∨ b = 1) (hc : c = 0 ∨ c = 1) :
  Calls Tryz.prog 39 #[.agg #[.int .i64 s0, .int .i64 s1, .int .i64 s2, .int .i64 s3, .int .i64 s4, .int .i64 s5], .int .i64 hand, .agg #[.int .i64 1, .int .i64 a, .int .i64 b, .int .i64 c, .int .u64 hh], .agg #[.int .u64 0, .int .u64 0, .int .u64 0, .int .u64 0]] w fun e w' => e = .returned (.tuple #[.agg (tk ⟨s0, s1, s2, s3, s4, s5⟩ hand ⟨1, 0, if (b == 1) = true then 1 else 0, if c = 0 then 0 else 1, 0⟩ 1 .zero ⟨false, 0⟩).toArray, .int .i64 0]) ∧ Below w.heap.size w w' := by
 have CL := hide (fun w1 : World => rmake_any ⟨s0, s1, s2, s3, s4, s5⟩ hand c (b == 1) w1)
 simp only [Shp.val] at CL
 have k1 := hide (show decide (b < 0) = false from by simp; omega)
 have k2 := hide (show decide (b > 1) = false from by simp; omega)
 have k3 := hide (show decide (c < 0) = false from by simp; omega)
 have k4 := hide (show decide (c > 1) = false from by simp; omega)
 obtain ⟨l, hl⟩ : ∃ l, tk ⟨s0, s1, s2, s3, s4, s5⟩ hand ⟨1, 0, if (b == 1) = true then 1 else 0, if c = 0 then 0 else 1, 0⟩ 1 .zero ⟨false, 0⟩ = l := ⟨_, rfl⟩
 rw [hl] at CL ⊢
 have hl1 := hide (show IsTk l from by rw [← hl]; exact tk_is _ _ _ _ _ _)
 obtain ⟨W4, hW4, th, sz4, B4, r0, r1⟩ := st_pre w s0 s1 s2 s3 s4 s5 1 a b c hh
 have HTH := hide th
 have g := fun i v hv => r0 i v hv
 have g' := fun i v hv => r1 i v hv
 simp only [Nat.zero_add] at g g'
 have q0 := g 0 _ rfl
 have q1 := g 1 _ rfl
 have q2 := g 2 _ rfl
 have q3 := g 3 _ rfl
 have q4 := g 4 _ rfl
 have q5 := g 5 _ rfl
 have j0 := g' 0 _ rfl
 have j1 := g' 1 _ rfl
 have j2 := g' 2 _ rfl
 have j3 := g' 3 _ rfl
 have j4 := g' 4 _ rfl
 have Q0 := hide q0
 have J0 := hide j0
 have J1 := hide j1
 have J2 := hide j2
 have J3 := hide j3
 clear g g' r0 r1 th
 obtain ⟨dT, hdT1, hdT2⟩ := row79
 have DT1 := hide hdT1
 have DT2 := hide hdT2
 clear hdT1 hdT2 hl hb hc
 go_enter Tryz.func39, Tryz.ntmps39
 go_upto_region 3 with (fail)
 clear hW4
 refine RSk.region (ks := [(0, 19), (1, 20), (2, 21), (3, 22), (4, 23), (5, 24), (6, 25), (7, 26), (8, 27), (9, 28), (10, 29), (11, 30), (12, 31), (13, 32), (14, 33), (15, 34), (16, 35), (17, 36), (18, 37), (19, 38), (20, 39), (21, 40), (22, 41), (23, 42), (24, 43), (25, 44), (26, 45), (27, 46), (28, 47), (29, 48), (30, 49), (31, 50), (32, 51), (33, 52), (34, 53), (35, 54), (36, 55), (37, 56), (38, 57), (39, 58)]) (vals := fun i => match i with
    | 0 => .pointer (some ⟨w.heap.size + 1, 0, none⟩)
    | 1 => .int .i64 1
    | 2 => .bool true
    | 3 => .bool true
    | 4 => .pointer (some ⟨w.heap.size + 1, 2, none⟩)
    | 5 => .int .i64 b
    | 6 => .bool false
    | 7 => .bool false
    | 8 => .pointer (some ⟨w.heap.size + 1, 2, none⟩)
    | 9 => .int .i64 b
    | 10 => .bool false
    | 11 => .bool false
    | 12 => .bool false
    | 13 => .pointer (some ⟨w.heap.size + 1, 3, none⟩)
    | 14 => .int .i64 c
    | 15 => .bool false
    | 16 => .bool false
    | 17 => .bool false
    | 18 => .pointer (some ⟨w.heap.size + 1, 3, none⟩)
    | 19 => .int .i64 c
    | 20 => .bool false
    | 21 => .bool false
    | 22 => .bool false
    | 23 => .bool false
    | 24 => .pointer (some ⟨w.heap.size + 1, 0, none⟩)
    | 25 => .int .i64 1
    | 26 => .bool false
    | 27 => .bool false
    | 28 => undef
    | 29 => undef
    | 30 => undef
    | 31 => undef
    | 32 => undef
    | 33 => undef
    | 34 => undef
    | 35 => undef
    | 36 => undef
    | 37 => undef
    | 38 => .bool false
    | 39 => .bool false
    | _ => undef) (WI := fun w' => w' = W4) (by decide) ?dd rfl ?does ?fin
 case dd =>
  intro k hk
  have hk' : k < 76 := by
   simp [RetN.D] at hk
   omega
  simpa using hk'
 case does =>
  intro i o ho
  have hi : i < 40 := RG.lt_of ho rfl
  match i, hi with
  | 0, _ => cases ho; exact rf rfl rfl (fun a w' hI => ex_fieldo rfl (hI.fx 6 rfl) (by simp [go_sem]))
  | 1, _ => cases ho; exact rf rfl rfl (fun a w' hI => ex_load rfl (hI.pure 0 _ _ rfl (by decide)) (agg_i w') (by rw [hI.world]; exact J0.out))
  | 2, _ => cases ho; exact rf rfl rfl (fun a w' hI => exk_eql rfl (hI.pure 1 _ _ rfl (by decide)) rfl rfl)
  | 3, _ => cases ho; exact rf rfl rfl (fun a w' hI => ex_move rfl (hI.pure 2 _ _ rfl (by decide)))
  | 4, _ => cases ho; exact rh rfl rfl rfl (by decide) rfl (by simp) (fun a w' hI => ex_fieldo rfl (hI.fx 6 rfl) (by simp [go_sem]))
  | 5, _ => cases ho; exact rh rfl rfl rfl (by decide) rfl (by simp) (fun a w' hI => ex_load rfl (hI.pure 4 _ _ rfl (by decide)) (agg_i w') (by rw [hI.world]; exact J2.out))
  | 6, _ => cases ho; exact rh rfl rfl rfl (by decide) rfl (by simp) (fun a w' hI => exk_lss rfl (hI.pure 5 _ _ rfl (by decide)) rfl k1.out)
  | 7, _ => cases ho; exact rh rfl rfl rfl (by decide) rfl (by simp) (fun a w' hI => ex_move rfl (hI.pure 6 _ _ rfl (by decide)))
  | 8, _ => cases ho; exact rh rfl rfl rfl (by decide) rfl (by simp) (fun a w' hI => ex_fieldo rfl (hI.fx 6 rfl) (by simp [go_sem]))
  | 9, _ => cases ho; exact rh rfl rfl rfl (by decide) rfl (by simp) (fun a w' hI => ex_load rfl (hI.pure 8 _ _ rfl (by decide)) (agg_i w') (by rw [hI.world]; exact J2.out))
  | 10, _ => cases ho; exact rh rfl rfl rfl (by decide) rfl (by simp) (fun a w' hI => exk_gtr rfl (hI.pure 9 _ _ rfl (by decide)) rfl k2.out)
  | 11, _ => cases ho; exact rh rfl rfl rfl (by decide) rfl (by simp) (fun a w' hI => exk_pick rfl (hI.pure 7 _ _ rfl (by decide)) (hI.pure 10 _ _ rfl (by decide)))
  | 12, _ => cases ho; exact rh rfl rfl rfl (by decide) rfl (by simp) (fun a w' hI => ex_move rfl (hI.pure 11 _ _ rfl (by decide)))
  | 13, _ => cases ho; exact rh rfl rfl rfl (by decide) rfl (by simp) (fun a w' hI => ex_fieldo rfl (hI.fx 6 rfl) (by simp [go_sem]))
  | 14, _ => cases ho; exact rh rfl rfl rfl (by decide) rfl (by simp) (fun a w' hI => ex_load rfl (hI.pure 13 _ _ rfl (by decide)) (agg_i w') (by rw [hI.world]; exact J3.out))
  | 15, _ => cases ho; exact rh rfl rfl rfl (by decide) rfl (by simp) (fun a w' hI => exk_lss rfl (hI.pure 14 _ _ rfl (by decide)) rfl k3.out)
  | 16, _ => cases ho; exact rh rfl rfl rfl (by decide) rfl (by simp) (fun a w' hI => exk_pick rfl (hI.pure 12 _ _ rfl (by decide)) (hI.pure 15 _ _ rfl (by decide)))
  | 17, _ => cases ho; exact rh rfl rfl rfl (by decide) rfl (by simp) (fun a w' hI => ex_move rfl (hI.pure 16 _ _ rfl (by decide)))
  | 18, _ => cases ho; exact rh rfl rfl rfl (by decide) rfl (by simp) (fun a w' hI => ex_fieldo rfl (hI.fx 6 rfl) (by simp [go_sem]))
  | 19, _ => cases ho; exact rh rfl rfl rfl (by decide) rfl (by simp) (fun a w' hI => ex_load rfl (hI.pure 18 _ _ rfl (by decide)) (agg_i w') (by rw [hI.world]; exact J3.out))
  | 20, _ => cases ho; exact rh rfl rfl rfl (by decide) rfl (by simp) (fun a w' hI => exk_gtr rfl (hI.pure 19 _ _ rfl (by decide)) rfl k4.out)
  | 21, _ => cases ho; exact rh rfl rfl rfl (by decide) rfl (by simp) (fun a w' hI => exk_pick rfl (hI.pure 17 _ _ rfl (by decide)) (hI.pure 20 _ _ rfl (by decide)))
  | 22, _ => cases ho; exact rf rfl rfl (fun a w' hI => exk_pick rfl (hI.pure 3 _ _ rfl (by decide)) (hI.pure 21 _ _ rfl (by decide)))
  | 23, _ => cases ho; exact rf rfl rfl (fun a w' hI => ex_move rfl (hI.pure 22 _ _ rfl (by decide)))
  | 24, _ => cases ho; exact rh rfl rfl rfl (by decide) rfl (by simp) (fun a w' hI => ex_fieldo rfl (hI.fx 6 rfl) (by simp [go_sem]))
  | 25, _ => cases ho; exact rh rfl rfl rfl (by decide) rfl (by simp) (fun a w' hI => ex_load rfl (hI.pure 24 _ _ rfl (by decide)) (agg_i w') (by rw [hI.world]; exact J0.out))
  | 26, _ => cases ho; exact rh rfl rfl rfl (by decide) rfl (by simp) (fun a w' hI => exk_eql rfl (hI.pure 25 _ _ rfl (by decide)) rfl rfl)
  | 27, _ => cases ho; exact rh rfl rfl rfl (by decide) rfl (by simp) (fun a w' hI => ex_move rfl (hI.pure 26 _ _ rfl (by decide)))
  | 28, _ => cases ho; exact ot rfl rfl rfl rfl (by decide) rfl rfl (by simp)
  | 29, _ => cases ho; exact ot rfl rfl rfl rfl (by decide) rfl rfl (by simp)
  | 30, _ => cases ho; exact ot rfl rfl rfl rfl (by decide) rfl rfl (by simp)
  | 31, _ => cases ho; exact ot rfl rfl rfl rfl (by decide) rfl rfl (by simp)
  | 32, _ => cases ho; exact gn rfl rfl rfl rfl (by decide) rfl (by simp)
  | 33, _ => cases ho; exact gn rfl rfl rfl rfl (by decide) rfl (by simp)
  | 34, _ => cases ho; exact gn rfl rfl rfl rfl (by decide) rfl (by simp)
  | 35, _ => cases ho; exact gn rfl rfl rfl rfl (by decide) rfl (by simp)
  | 36, _ => cases ho; exact gn rfl rfl rfl rfl (by decide) rfl (by simp)
  | 37, _ => cases ho; exact ot rfl rfl rfl rfl (by decide) rfl rfl (by simp)
  | 38, _ => cases ho; exact rh rfl rfl rfl (by decide) rfl (by simp) (fun a w' hI => exk_pick rfl (hI.pure 27 _ _ rfl (by decide)) rfl)
  | 39, _ => cases ho; exact rf rfl rfl (fun a w' hI => exk_pick rfl (hI.pure 23 _ _ rfl (by decide)) (hI.pure 38 _ _ rfl (by decide)))
 case fin =>
  intro a' w' hI
  obtain rfl := hI.world.symm
  have ea := act_all a' 76 (by rw [hI.sz]; rfl) hI.df
  simp only [List.range, List.range.loop, List.map] at ea
  rw [hI.fx 0 rfl, hI.fx 1 rfl, hI.fx 2 rfl, hI.fx 3 rfl, hI.fx 4 rfl, hI.fx 5 rfl, hI.fx 6 rfl, hI.fx 7 rfl, hI.fx 8 rfl, hI.fx 9 rfl, hI.fx 10 rfl, hI.fx 11 rfl, hI.fx 12 rfl, hI.fx 13 rfl, hI.fx 14 rfl, hI.fx 15 rfl, hI.fx 16 rfl, hI.fx 17 rfl, hI.fx 18 rfl, hI.fx 59 rfl, hI.fx 60 rfl, hI.fx 61 rfl, hI.fx 62 rfl, hI.fx 63 rfl, hI.fx 64 rfl, hI.fx 65 rfl, hI.fx 66 rfl, hI.fx 67 rfl, hI.fx 68 rfl, hI.fx 69 rfl, hI.fx 70 rfl, hI.fx 71 rfl, hI.fx 72 rfl, hI.fx 73 rfl, hI.fx 74 rfl, hI.fx 75 rfl] at ea
  have kv58 := hI.pure 39 58 _ rfl (by decide)
  clear hI
  obtain ⟨us, hus⟩ : ∃ us : Nat → Value, ∀ k, a'.eval (.tmp k) = us k := ⟨_, fun _ => rfl⟩
  simp only [hus] at ea kv58
  rw [kv58] at ea
  simp only [show ∀ (ts : Array Value) (ds) (i : Nat), (Act.mk ts ds).eval (.tmp i) = ts.getD i undef from fun _ _ _ => rfl] at ea
  simp at ea
  subst ea
  go_wp2_with (first
     | (go_at_call 14; refine (CL.out _).mono ?_; rintro e w1 ⟨rfl, hb1⟩; have HB1 := hide hb1; have HT1 := hide (there_block HTH.out (hb1.block _ (by omega))); clear hb1)
     | (refine wpList_store_mid (by rfl) 59 (.tmp 8) (.tmp 70) (by rfl) (w.heap.size + 3) 0 l.toArray (by rfl) (by rfl) (by simpa [hl1.out.1] using HT1.out) (by simpa [hl1.out.1] using size79) (by exact all_oneCell_toArray hl1.out.2) ?_))
  have r5 := World.rangeAt_setCells_same w1 (w.heap.size + 3) 0 l (by rw [hl1.out.1]; exact HT1.out)
  refine bodyPost_ret (v := .tuple #[.agg l.toArray, .int .i64 0]) ?res rfl ⟨rfl, ?bel⟩
  case res => exact results_ct (fn := Tryz.f39) (t := 8) (t' := 9) (by rfl) (by rfl) (run_loadVar_mid _ _ 0 _ l dT r5 DT1.out DT2.out (by rw [hl1.out.1]; exact size79))
  case bel => exact (B4.out.trans (HB1.out.mono (by omega))).trans ((touch_setCells (w.heap.size + 3) l 0 _).below (fun k hk => by omega) (by have := HB1.out.size; omega))
theorem rst_give (w : World) (s0 s1 s2 s3 s4 s5 hand a b c hh : Int) (h5 : Shape.R5 s0 s1 s2 s3 s4) (ha : 1 ≤ a ∧ a ≤ s0) :
  Calls Tryz.prog 39 #[.agg #[.int .i64 s0, .int .i64 s1, .int .i64 s2, .int .i64 s3, .int .i64 s4, .int .i64 s5], .int .i64 hand, .agg #[.int .i64 2, .int .i64 a, .int .i64 b, .int .i64 c, .int .u64 hh], .agg #[.int .u64 0, .int .u64 0, .int .u64 0, .int .u64 0]] w fun e w' => e = .returned (.tuple #[.agg (tk ⟨s0, s1, s2, s3, s4, s5⟩ hand ⟨2, a, 0, 0, 0⟩ (if slotIn ⟨s0, s1, s2, s3, s4, s5⟩ a 0 then 1 else 2) .zero ⟨false, 0⟩).toArray, .int .i64 0]) ∧ Below w.heap.size w w' := by
 have CL := hide (fun w1 : World => rgive_any (sh := ⟨s0, s1, s2, s3, s4, s5⟩) h5 hand a w1)
 simp only [Shp.val] at CL
 have k1 := hide (show decide (a < 1) = false from by simp; omega)
 have k2 := hide (show decide (a > s0) = false from by simp; omega)
 obtain ⟨l, hl⟩ : ∃ l, tk ⟨s0, s1, s2, s3, s4, s5⟩ hand ⟨2, a, 0, 0, 0⟩ (if slotIn ⟨s0, s1, s2, s3, s4, s5⟩ a 0 then 1 else 2) .zero ⟨false, 0⟩ = l := ⟨_, rfl⟩
 rw [hl] at CL ⊢
 have hl1 := hide (show IsTk l from by rw [← hl]; exact tk_is _ _ _ _ _ _)
 obtain ⟨W4, hW4, th, sz4, B4, r0, r1⟩ := st_pre w s0 s1 s2 s3 s4 s5 2 a b c hh
 have HTH := hide th
 have g := fun i v hv => r0 i v hv
 have g' := fun i v hv => r1 i v hv
 simp only [Nat.zero_add] at g g'
 have q0 := g 0 _ rfl
 have q1 := g 1 _ rfl
 have q2 := g 2 _ rfl
 have q3 := g 3 _ rfl
 have q4 := g 4 _ rfl
 have q5 := g 5 _ rfl
 have j0 := g' 0 _ rfl
 have j1 := g' 1 _ rfl
 have j2 := g' 2 _ rfl
 have j3 := g' 3 _ rfl
 have j4 := g' 4 _ rfl
 have Q0 := hide q0
 have J0 := hide j0
 have J1 := hide j1
 have J2 := hide j2
 have J3 := hide j3
 clear g g' r0 r1 th
 obtain ⟨dT, hdT1, hdT2⟩ := row79
 have DT1 := hide hdT1
 have DT2 := hide hdT2
 clear hdT1 hdT2 hl h5 ha
 go_enter Tryz.func39, Tryz.ntmps39
 go_upto_region 3 with (fail)
 clear hW4
 refine RSk.region (ks := [(0, 19), (1, 20), (2, 21), (3, 22), (4, 23), (5, 24), (6, 25), (7, 26), (8, 27), (9, 28), (10, 29), (11, 30), (12, 31), (13, 32), (14, 33), (15, 34), (16, 35), (17, 36), (18, 37), (19, 38), (20, 39), (21, 40), (22, 41), (23, 42), (24, 43), (25, 44), (26, 45), (27, 46), (28, 47), (29, 48), (30, 49), (31, 50), (32, 51), (33, 52), (34, 53), (35, 54), (36, 55), (37, 56), (38, 57), (39, 58)]) (vals := fun i => match i with
    | 0 => .pointer (some ⟨w.heap.size + 1, 0, none⟩)
    | 1 => .int .i64 2
    | 2 => .bool false
    | 3 => .bool false
    | 4 => undef
    | 5 => undef
    | 6 => undef
    | 7 => undef
    | 8 => undef
    | 9 => undef
    | 10 => undef
    | 11 => undef
    | 12 => undef
    | 13 => undef
    | 14 => undef
    | 15 => undef
    | 16 => undef
    | 17 => undef
    | 18 => undef
    | 19 => undef
    | 20 => undef
    | 21 => undef
    | 22 => .bool false
    | 23 => .bool false
    | 24 => .pointer (some ⟨w.heap.size + 1, 0, none⟩)
    | 25 => .int .i64 2
    | 26 => .bool true
    | 27 => .bool true
    | 28 => .pointer (some ⟨w.heap.size + 1, 1, none⟩)
    | 29 => .int .i64 a
    | 30 => .bool false
    | 31 => .bool false
    | 32 => .pointer (some ⟨w.heap.size + 1, 1, none⟩)
    | 33 => .int .i64 a
    | 34 => .pointer (some ⟨w.heap.size, 0, none⟩)
    | 35 => .int .i64 s0
    | 36 => .bool false
    | 37 => .bool false
    | 38 => .bool false
    | 39 => .bool false
    | _ => undef) (WI := fun w' => w' = W4) (by decide) ?dd rfl ?does ?fin
 case dd =>
  intro k hk
  have hk' : k < 76 := by
   simp [RetN.D] at hk
   omega
  simpa using hk'
 case does =>
  intro i o ho
  have hi : i < 40 := RG.lt_of ho rfl
  match i, hi with
  | 0, _ => cases ho; exact rf rfl rfl (fun a w' hI => ex_fieldo rfl (hI.fx 6 rfl) (by simp [go_sem]))
  | 1, _ => cases ho; exact rf rfl rfl (fun a w' hI => ex_load rfl (hI.pure 0 _ _ rfl (by decide)) (agg_i w') (by rw [hI.world]; exact J0.out))
  | 2, _ => cases ho; exact rf rfl rfl (fun a w' hI => exk_eql rfl (hI.pure 1 _ _ rfl (by decide)) rfl rfl)
  | 3, _ => cases ho; exact rf rfl rfl (fun a w' hI => ex_move rfl (hI.pure 2 _ _ rfl (by decide)))
  | 4, _ => cases ho; exact ot rfl rfl rfl rfl (by decide) rfl rfl (by simp)
  | 5, _ => cases ho; exact ot rfl rfl rfl rfl (by decide) rfl rfl (by simp)
  | 6, _ => cases ho; exact ot rfl rfl rfl rfl (by decide) rfl rfl (by simp)
  | 7, _ => cases ho; exact ot rfl rfl rfl rfl (by decide) rfl rfl (by simp)
  | 8, _ => cases ho; exact gn rfl rfl rfl rfl (by decide) rfl (by simp)
  | 9, _ => cases ho; exact gn rfl rfl rfl rfl (by decide) rfl (by simp)
  | 10, _ => cases ho; exact gn rfl rfl rfl rfl (by decide) rfl (by simp)
  | 11, _ => cases ho; exact ot rfl rfl rfl rfl (by decide) rfl rfl (by simp)
  | 12, _ => cases ho; exact ot rfl rfl rfl rfl (by decide) rfl rfl (by simp)
  | 13, _ => cases ho; exact gn rfl rfl rfl rfl (by decide) rfl (by simp)
  | 14, _ => cases ho; exact gn rfl rfl rfl rfl (by decide) rfl (by simp)
  | 15, _ => cases ho; exact gn rfl rfl rfl rfl (by decide) rfl (by simp)
  | 16, _ => cases ho; exact ot rfl rfl rfl rfl (by decide) rfl rfl (by simp)
  | 17, _ => cases ho; exact ot rfl rfl rfl rfl (by decide) rfl rfl (by simp)
  | 18, _ => cases ho; exact gn rfl rfl rfl rfl (by decide) rfl (by simp)
  | 19, _ => cases ho; exact gn rfl rfl rfl rfl (by decide) rfl (by simp)
  | 20, _ => cases ho; exact gn rfl rfl rfl rfl (by decide) rfl (by simp)
  | 21, _ => cases ho; exact ot rfl rfl rfl rfl (by decide) rfl rfl (by simp)
  | 22, _ => cases ho; exact rf rfl rfl (fun a w' hI => exk_pick rfl (hI.pure 3 _ _ rfl (by decide)) rfl)
  | 23, _ => cases ho; exact rf rfl rfl (fun a w' hI => ex_move rfl (hI.pure 22 _ _ rfl (by decide)))
  | 24, _ => cases ho; exact rh rfl rfl rfl (by decide) rfl (by simp) (fun a w' hI => ex_fieldo rfl (hI.fx 6 rfl) (by simp [go_sem]))
  | 25, _ => cases ho; exact rh rfl rfl rfl (by decide) rfl (by simp) (fun a w' hI => ex_load rfl (hI.pure 24 _ _ rfl (by decide)) (agg_i w') (by rw [hI.world]; exact J0.out))
  | 26, _ => cases ho; exact rh rfl rfl rfl (by decide) rfl (by simp) (fun a w' hI => exk_eql rfl (hI.pure 25 _ _ rfl (by decide)) rfl rfl)
  | 27, _ => cases ho; exact rh rfl rfl rfl (by decide) rfl (by simp) (fun a w' hI => ex_move rfl (hI.pure 26 _ _ rfl (by decide)))
  | 28, _ => cases ho; exact rh rfl rfl rfl (by decide) rfl (by simp) (fun a w' hI => ex_fieldo rfl (hI.fx 6 rfl) (by simp [go_sem]))
  | 29, _ => cases ho; exact rh rfl rfl rfl (by decide) rfl (by simp) (fun a w' hI => ex_load rfl (hI.pure 28 _ _ rfl (by decide)) (agg_i w') (by rw [hI.world]; exact J1.out))
  | 30, _ => cases ho; exact rh rfl rfl rfl (by decide) rfl (by simp) (fun a w' hI => exk_lss rfl (hI.pure 29 _ _ rfl (by decide)) rfl k1.out)
  | 31, _ => cases ho; exact rh rfl rfl rfl (by decide) rfl (by simp) (fun a w' hI => ex_move rfl (hI.pure 30 _ _ rfl (by decide)))
  | 32, _ => cases ho; exact rh rfl rfl rfl (by decide) rfl (by simp) (fun a w' hI => ex_fieldo rfl (hI.fx 6 rfl) (by simp [go_sem]))
  | 33, _ => cases ho; exact rh rfl rfl rfl (by decide) rfl (by simp) (fun a w' hI => ex_load rfl (hI.pure 32 _ _ rfl (by decide)) (agg_i w') (by rw [hI.world]; exact J1.out))
  | 34, _ => cases ho; exact rh rfl rfl rfl (by decide) rfl (by simp) (fun a w' hI => ex_fieldo rfl (hI.fx 4 rfl) (by simp [go_sem]))
  | 35, _ => cases ho; exact rh rfl rfl rfl (by decide) rfl (by simp) (fun a w' hI => ex_load rfl (hI.pure 34 _ _ rfl (by decide)) (agg_i w') (by rw [hI.world]; exact Q0.out))
  | 36, _ => cases ho; exact rh rfl rfl rfl (by decide) rfl (by simp) (fun a w' hI => exk_gtr rfl (hI.pure 33 _ _ rfl (by decide)) (hI.pure 35 _ _ rfl (by decide)) k2.out)
  | 37, _ => cases ho; exact rh rfl rfl rfl (by decide) rfl (by simp) (fun a w' hI => exk_pick rfl (hI.pure 31 _ _ rfl (by decide)) (hI.pure 36 _ _ rfl (by decide)))
  | 38, _ => cases ho; exact rh rfl rfl rfl (by decide) rfl (by simp) (fun a w' hI => exk_pick rfl (hI.pure 27 _ _ rfl (by decide)) (hI.pure 37 _ _ rfl (by decide)))
  | 39, _ => cases ho; exact rf rfl rfl (fun a w' hI => exk_pick rfl (hI.pure 23 _ _ rfl (by decide)) (hI.pure 38 _ _ rfl (by decide)))
 case fin =>
  intro a' w' hI
  obtain rfl := hI.world.symm
  have ea := act_all a' 76 (by rw [hI.sz]; rfl) hI.df
  simp only [List.range, List.range.loop, List.map] at ea
  rw [hI.fx 0 rfl, hI.fx 1 rfl, hI.fx 2 rfl, hI.fx 3 rfl, hI.fx 4 rfl, hI.fx 5 rfl, hI.fx 6 rfl, hI.fx 7 rfl, hI.fx 8 rfl, hI.fx 9 rfl, hI.fx 10 rfl, hI.fx 11 rfl, hI.fx 12 rfl, hI.fx 13 rfl, hI.fx 14 rfl, hI.fx 15 rfl, hI.fx 16 rfl, hI.fx 17 rfl, hI.fx 18 rfl, hI.fx 59 rfl, hI.fx 60 rfl, hI.fx 61 rfl, hI.fx 62 rfl, hI.fx 63 rfl, hI.fx 64 rfl, hI.fx 65 rfl, hI.fx 66 rfl, hI.fx 67 rfl, hI.fx 68 rfl, hI.fx 69 rfl, hI.fx 70 rfl, hI.fx 71 rfl, hI.fx 72 rfl, hI.fx 73 rfl, hI.fx 74 rfl, hI.fx 75 rfl] at ea
  have kv58 := hI.pure 39 58 _ rfl (by decide)
  clear hI
  obtain ⟨us, hus⟩ : ∃ us : Nat → Value, ∀ k, a'.eval (.tmp k) = us k := ⟨_, fun _ => rfl⟩
  simp only [hus] at ea kv58
  rw [kv58] at ea
  simp only [show ∀ (ts : Array Value) (ds) (i : Nat), (Act.mk ts ds).eval (.tmp i) = ts.getD i undef from fun _ _ _ => rfl] at ea
  simp at ea
  subst ea
  go_wp2_with (first
     | (go_at_call 16; refine (CL.out _).mono ?_; rintro e w1 ⟨rfl, hb1⟩; have HB1 := hide hb1; have HT1 := hide (there_block HTH.out (hb1.block _ (by omega))); clear hb1)
     | (refine wpList_store_mid (by rfl) 59 (.tmp 8) (.tmp 75) (by rfl) (w.heap.size + 3) 0 l.toArray (by rfl) (by rfl) (by simpa [hl1.out.1] using HT1.out) (by simpa [hl1.out.1] using size79) (by exact all_oneCell_toArray hl1.out.2) ?_))
  have r5 := World.rangeAt_setCells_same w1 (w.heap.size + 3) 0 l (by rw [hl1.out.1]; exact HT1.out)
  refine bodyPost_ret (v := .tuple #[.agg l.toArray, .int .i64 0]) ?res rfl ⟨rfl, ?bel⟩
  case res => exact results_ct (fn := Tryz.f39) (t := 8) (t' := 9) (by rfl) (by rfl) (run_loadVar_mid _ _ 0 _ l dT r5 DT1.out DT2.out (by rw [hl1.out.1]; exact size79))
  case bel => exact (B4.out.trans (HB1.out.mono (by omega))).trans ((touch_setCells (w.heap.size + 3) l 0 _).below (fun k hk => by omega) (by have := HB1.out.size; omega))
theorem rst_kind (w : World) (s0 s1 s2 s3 s4 s5 hand kind a b c hh : Int) (k1 : ¬ kind = 1) (k2 : ¬ kind = 2) :
  Calls Tryz.prog 39 #[.agg #[.int .i64 s0, .int .i64 s1, .int .i64 s2, .int .i64 s3, .int .i64 s4, .int .i64 s5], .int .i64 hand, .agg #[.int .i64 kind, .int .i64 a, .int .i64 b, .int .i64 c, .int .u64 hh], .agg #[.int .u64 0, .int .u64 0, .int .u64 0, .int .u64 0]] w fun e w' => e = .returned (.tuple #[.agg (tk0).toArray, .int .i64 200]) ∧ Below w.heap.size w w' := by
 have k1' : (kind != 1) = true := by simpa using k1
 have k2' : (kind != 2) = true := by simpa using k2
 obtain ⟨l, hl⟩ : ∃ l, tk0 = l := ⟨_, rfl⟩
 rw [hl]
 have hl1 := hide (show IsTk l from by rw [← hl]; exact tk0_is)
 have HLA := hide (show Value.agg #[.int .i64 0, .int .i64 0, .int .i64 0, .int .i64 0, .int .i64 0, .int .i64 0, .int .i64 0, .int .i64 0, .int .i64 0, .int .i64 0, .int .i64 0, .int .u64 0, .int .i64 0, .int .u64 0, .int .u64 0, .int .u64 0, .int .u64 0, .int .u64 0, .int .u64 0, .int .u64 0, .int .u64 0, .slice none 0 0, .bool false, .int .u64 0, .int .u64 0, .int .u64 0, .int .u64 0, .int .u64 0] = .agg l.toArray from by rw [← hl]; rfl)
 obtain ⟨W4, hW4, th, sz4, B4, r0, r1⟩ := st_pre w s0 s1 s2 s3 s4 s5 kind a b c hh
 have HTH := hide th
 have g := fun i v hv => r0 i v hv
 have g' := fun i v hv => r1 i v hv
 simp only [Nat.zero_add] at g g'
 have q0 := g 0 _ rfl
 have q1 := g 1 _ rfl
 have q2 := g 2 _ rfl
 have q3 := g 3 _ rfl
 have q4 := g 4 _ rfl
 have q5 := g 5 _ rfl
 have j0 := g' 0 _ rfl
 have j1 := g' 1 _ rfl
 have j2 := g' 2 _ rfl
 have j3 := g' 3 _ rfl
 have j4 := g' 4 _ rfl
 have Q0 := hide q0
 have J0 := hide j0
 have J1 := hide j1
 have J2 := hide j2
 have J3 := hide j3
 clear g g' r0 r1 th
 obtain ⟨dT, hdT1, hdT2⟩ := row79
 have DT1 := hide hdT1
 have DT2 := hide hdT2
 clear hdT1 hdT2 hl k1 k2
 go_enter Tryz.func39, Tryz.ntmps39
 have HT1 := HTH
 go_wp2_with (first
    | (refine wpList_store_mid (by rfl) 59 (.tmp 8) (.tmp 18) (by rfl) (w.heap.size + 3) 0 l.toArray (by rfl) (by exact HLA.out) (by simpa [hl1.out.1] using HT1.out) (by simpa [hl1.out.1] using size79) (by exact all_oneCell_toArray hl1.out.2) ?_))
 have r5 := World.rangeAt_setCells_same W4 (w.heap.size + 3) 0 l (by rw [hl1.out.1]; exact HT1.out)
 refine bodyPost_ret (v := .tuple #[.agg l.toArray, .int .i64 200]) ?res rfl ⟨rfl, ?bel⟩
 case res => exact results_ct (fn := Tryz.f39) (t := 8) (t' := 9) (by rfl) (by rfl) (run_loadVar_mid _ _ 0 _ l dT r5 DT1.out DT2.out (by rw [hl1.out.1]; exact size79))
 case bel => exact B4.out.trans ((touch_setCells (w.heap.size + 3) l 0 _).below (fun k hk => by omega) (by omega))
end Rom
end
end Go.Proofs.YtmikhglnomgbfaaGreat
