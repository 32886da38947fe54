/-
  Lemmas: OnceRM.
-/
import Derived.Test.YtgfbohmehhhbeaaTq04
import Derived.Test.YtgfbohmehhhbeaaTq07
import Derived.Test.YtgfbohmehhhbeaaTq09
/-
  Once's reference: Step: the count and the store.
-/
namespace Go.Proofs.Ytgfbohmehhhbeaa
open Go.RowKit
set_option linter.unusedVariables false
set_option linter.unusedSimpArgs false
set_option linter.unnecessarySimpa false
set_option maxRecDepth 20000
namespace Once

theorem fieldT (w : World) (b : Nat) : (Instr.fieldAt 53 (.pointer (some ⟨b, 0, none⟩)) 1).run Try.prog w = .ok (.pointer (some ⟨b, 6, none⟩)) w ∧ (Instr.fieldAt 53 (.pointer (some ⟨b, 0, none⟩)) 0).run Try.prog w = .ok (.pointer (some ⟨b, 0, none⟩)) w ∧ (Instr.fieldAt 23 (.pointer (some ⟨b, 0, none⟩)) 5).run Try.prog w = .ok (.pointer (some ⟨b, 5, none⟩)) w := by
  refine ⟨?_, ?_, ?_⟩ <;> simp [go_sem]
theorem callRDo (args : Array Value) (w : World) : (callFunc 68 args).run Try.prog w = .ok (.enter 68 args) w := by simp [go_sem]
theorem ex_add3 {ev : Operand → Value} {o : Oper} {w : World} {x y : Operand} {u v : Int} (ho : o.op = .binOp .add 3 x y 3) (hx : ev x = .int .i64 u) (hy : ev y = .int .i64 v) (hr : IntKind.i64.wrap (u + v) = u + v) : (execOp ev o).run Try.prog w = .ok (.value (.int .i64 (u + v))) w := by
  simp [execOp, ho, hx, hy, go_sem, hr]

set_option maxHeartbeats 4000000 in
theorem radd {w : World} {g n cap : Nat} {f f' : Nat → Int} {x : Stp} {s0 s1 s2 s3 s4 s5 hand a b c hh r val kd : Int} {ok : Bool} (hr : IsRow w g n cap f) (k3 : ¬ kd = 3) (hr5 : IntKind.i64.wrap (s5 + a) = s5 + a) (hx : stepOf n f ⟨hand, 4, s5 + a, 0, 1, true⟩ = x) (hf' : wordsOf n f ⟨hand, 4, s5 + a, 0, 1, true⟩ = f') :
    Calls Try.prog 63 #[.agg (tk ⟨s0, s1, s2, s3, s4, s5⟩ hand ⟨kd, a, b, c, hh⟩ 1 ⟨r, 0, 0, 0, 0, 0, 0, 0⟩ ⟨ok, val⟩).toArray, .slice (some ⟨g, 0, none⟩) n cap] w fun e w' =>
      e = .returned (.tuple #[.agg (tk ⟨s0, s1, s2, s3, s4, s5⟩ hand ⟨kd, a, b, c, hh⟩ 2 ⟨r, 0, 0, 0, 0, 0, 0, 0⟩ ⟨ok, val⟩).toArray, x.val, .bool false]) ∧ IsRow w' g n cap f' ∧ w.grownBy w' (some g) := by
  have DO := hide (fun (w' : World) (hr' : IsRow w' g n cap f) => ref_do (s := ⟨hand, 4, s5 + a, 0, 1, true⟩) hr' ⟨by show (0 : Int) ≤ 1; decide, by show (1 : Int) ≤ 18446744073709551615; decide⟩ ⟨by show (1 : Int) ≤ 4; decide, by show (4 : Int) ≤ 5; decide⟩)
  have HX := hide hx
  have HF := hide hf'
  have lg := hr.lt
  obtain ⟨l0, hl0⟩ : ∃ l, tk ⟨s0, s1, s2, s3, s4, s5⟩ hand ⟨kd, a, b, c, hh⟩ 1 ⟨r, 0, 0, 0, 0, 0, 0, 0⟩ ⟨ok, val⟩ = l := ⟨_, rfl⟩
  have hl0' : l0.length = 28 := by rw [← hl0]; rfl
  have hset : (l0.set 12 (.int .i64 2)) = tk ⟨s0, s1, s2, s3, s4, s5⟩ hand ⟨kd, a, b, c, hh⟩ 2 ⟨r, 0, 0, 0, 0, 0, 0, 0⟩ ⟨ok, val⟩ := by rw [← hl0]; rfl
  obtain ⟨l1, hl1⟩ : ∃ l, tk ⟨s0, s1, s2, s3, s4, s5⟩ hand ⟨kd, a, b, c, hh⟩ 2 ⟨r, 0, 0, 0, 0, 0, 0, 0⟩ ⟨ok, val⟩ = l := ⟨_, rfl⟩
  rw [hl0, hl1]
  rw [hl1] at hset
  have hl1i := hide (show IsTk l1 from by rw [← hl1]; exact tk_is _ _ _ _ _ _)
  obtain ⟨W3, hW3⟩ : ∃ W3, ((w.alloc (.cells l0.toArray 53)).alloc (.cells tk0.toArray 53)).alloc (.cells [Value.int .i64 0, .int .i64 0, .int .i64 0, .int .u64 0, .int .u64 0, .bool false].toArray 71) = W3 := ⟨_, rfl⟩
  have sz3 : W3.heap.size = w.heap.size + 3 := by rw [← hW3]; simp
  have R0 : W3.rowIs w.heap.size 53 28 (lrow l0) := by rw [← hW3]; exact ((rowL_alloc w l0 _ hl0').alloc _).alloc _
  have R1 : W3.rowIs (w.heap.size + 1) 53 28 (lrow tk0) := by
    rw [← hW3]
    have := (rowL_alloc (w.alloc (.cells l0.toArray 53)) tk0 53 (n := 28) rfl).alloc (.cells [Value.int .i64 0, .int .i64 0, .int .i64 0, .int .u64 0, .int .u64 0, .bool false].toArray 71)
    rwa [World.size_alloc] at this
  have R2 : W3.rowIs (w.heap.size + 2) 71 6 (lrow [Value.int .i64 0, .int .i64 0, .int .i64 0, .int .u64 0, .int .u64 0, .bool false]) := by
    rw [← hW3]
    have := rowL_alloc ((w.alloc (.cells l0.toArray 53)).alloc (.cells tk0.toArray 53)) [Value.int .i64 0, .int .i64 0, .int .i64 0, .int .u64 0, .int .u64 0, .bool false] 71 (n := 6) rfl
    rwa [World.size_alloc, World.size_alloc] at this
  have G3 : w.grownBy W3 (some g) := by rw [← hW3]; exact grown_alloc (grown_alloc (grown_alloc (grown_refl _ _) _) _) _
  have HR3 := hide (show IsRow W3 g n cap f from hr.grown (grown_none (by rw [← hW3]; exact grown_alloc (grown_alloc (grown_alloc (grown_refl _ _) _) _) _) none) (by simp))
  have cell : ∀ i v, l0[i]? = some v → W3.cell? ⟨w.heap.size, i, none⟩ = some v := fun i v hv => by rw [R0.cell (i := i) (by have := (List.getElem?_eq_some_iff.1 hv).1; omega), lrow_of hv]
  have g5 : l0[5]? = some (.int .i64 s5) := by rw [← hl0]; rfl
  have g6 : l0[6]? = some (.int .i64 hand) := by rw [← hl0]; rfl
  have g7 : l0[7]? = some (.int .i64 kd) := by rw [← hl0]; rfl
  have g8 : l0[8]? = some (.int .i64 a) := by rw [← hl0]; rfl
  have g11 : l0[11]? = some (.int .u64 hh) := by rw [← hl0]; rfl
  have g12 : l0[12]? = some (.int .i64 1) := by rw [← hl0]; rfl
  have g13 : l0[13]? = some (.int .u64 r) := by rw [← hl0]; rfl
  have g22 : l0[22]? = some (.bool ok) := by rw [← hl0]; rfl
  have g23 : l0[23]? = some (.int .u64 val) := by rw [← hl0]; rfl
  have c5 := cell 5 _ g5
  have c6 := cell 6 _ g6
  have c7 := cell 7 _ g7
  have c8 := cell 8 _ g8
  have c11 := cell 11 _ g11
  have c12 := cell 12 _ g12
  have c13 := cell 13 _ g13
  have c22 := cell 22 _ g22
  have c23 := cell 23 _ g23
  have G5 := hide g5
  have G6 := hide g6
  have G7 := hide g7
  have G8 := hide g8
  have G11 := hide g11
  have G12 := hide g12
  have G13 := hide g13
  have G22 := hide g22
  have G23 := hide g23
  obtain ⟨dT, hdT1, hdT2⟩ := row79
  obtain ⟨dS, hdS1, hdS2⟩ := row46
  have HD := hide (And.intro hdT1 (And.intro hdT2 (And.intro hdS1 hdS2)))
  have HR0 := hide R0
  have HR1 := hide R1
  have HR2 := hide R2
  have HG3 := hide G3
  have HSET := hide hset
  have HL0 := hide hl0'
  have HR5 := hide hr5
  clear hr5
  clear hx hf' hr R0 R1 R2 G3 cell hset hl0' hl0 hl1 hdT1 hdT2 hdS1 hdS2 g5 g6 g7 g8 g11 g12 g13 g22 g23
  simp only [tk0] at hW3
  have f12 := HR0.out.frozen 12
  go_enter Try.func63, Try.ntmps63
  go_wp2_with fail
  obtain ⟨w2, hw2⟩ : ∃ w2, (W3.setCell ⟨w.heap.size, 12, none⟩ (.int .i64 2)) = w2 := ⟨_, rfl⟩
  have sz2 : w2.heap.size = W3.heap.size := by rw [← hw2]; simp
  have tt2 : Touch W3 w2 (fun k => k = w.heap.size) := by rw [← hw2]; exact (Touch.setCell (S := fun k => k = w.heap.size) (Touch.refl W3 _) ⟨w.heap.size, 12, none⟩ (.inl rfl) _)
  have rA : w2.rangeAt w.heap.size 0 l1 := by
    have := rowIs.range (rowIs.setL HR0.out (i := 12) (by simp [HL0.out]) (.int .i64 2)) (by simp [HL0.out])
    rw [HSET.out, hw2] at this
    exact this
  have tC : w2.there (w.heap.size + 1) 0 28 := rowIs.there (HR1.out.of_block (tt2.block _ (by omega) (by omega))) (by omega)
  have tD : w2.there (w.heap.size + 2) 0 6 := rowIs.there (HR2.out.of_block (tt2.block _ (by omega) (by omega))) (by omega)
  have rW : IsRow w2 g n cap f := HR3.out.block (tt2.block g (by omega) (by omega))
  have TW : Touch w w2 (fun k => k = g) := ((Touch.of_grown HG3.out).mono (S' := fun k => k = g) (fun k _ h => by simpa using h)).trans' tt2 (fun k hk h => absurd hk (by omega))
  rw [hw2]
  have HTW := hide TW
  have q5 : l1[5]? = some (.int .i64 s5) := by rw [← HSET.out]; simp [G5.out]
  have q6 : l1[6]? = some (.int .i64 hand) := by rw [← HSET.out]; simp [G6.out]
  clear TW hw2 hW3
  refine RetM.region (ks := [(0, 53), (1, 54), (2, 55), (3, 56), (4, 57), (5, 58), (6, 59), (7, 60), (8, 61), (12, 6)]) (vals := fun i => match i with
      | 0 => .agg l1.toArray
      | 1 => .slice (some ⟨g, 0, none⟩) n cap
      | 2 => .pointer (some ⟨w.heap.size, 6, none⟩)
      | 3 => .int .i64 hand
      | 4 => .pointer (some ⟨w.heap.size, 0, none⟩)
      | 5 => .pointer (some ⟨w.heap.size, 5, none⟩)
      | 6 => .int .i64 s5
      | 7 => .int .i64 a
      | 8 => .int .i64 (s5 + a)
      | _ => .bool false) (kc := 9) (sc := 62) (vc := .agg #[Value.int .i64 x.hand, .int .i64 x.act, .int .i64 x.at_, .int .u64 x.had, .int .u64 x.put, .bool x.ok])
      (WI := fun d w' => w'.rangeAt w.heap.size 0 l1 ∧ IsRow w' g n cap (if d = true then f' else f) ∧ Touch w2 w' (fun k => k = g ∨ k = w.heap.size + 1 ∨ k = w.heap.size + 2))
      (C := w.heap.size + 1) (iC := 10) (lt := l1) (E := w.heap.size + 2) (iE := 11) (ls := [Value.int .i64 x.hand, .int .i64 x.act, .int .i64 x.at_, .int .u64 x.had, .int .u64 x.put, .bool x.ok]) (by kernel_rfl) ?gg ?bk rfl (by decide) (by decide) (by decide) (by omega) ?dd (by simp) hl1i.out.2 (by simp [Value.oneCell']) (by rw [hl1i.out.1]; exact tC) tD ?w0 ?wc ?we ?kinds ?fin
  case gg =>
    intro i o ho
    have hi : i < 13 := by have := (Array.getElem?_eq_some_iff.1 ho).1; simpa using this
    match i, hi with
    | 0, _ | 1, _ | 2, _ | 3, _ | 4, _ | 5, _ | 6, _ | 7, _ | 8, _ | 9, _ | 10, _ | 11, _ | 12, _ => injection ho with ho; subst ho; rfl
  case bk =>
    intro i o ho
    have hi : i < 13 := by have := (Array.getElem?_eq_some_iff.1 ho).1; simpa using this
    match i, hi with
    | 0, _ | 1, _ | 2, _ | 3, _ | 4, _ | 5, _ | 6, _ | 7, _ | 8, _ | 9, _ | 10, _ | 11, _ | 12, _ => injection ho with ho; subst ho; simp [Region.binds]
  case dd =>
    intro k hk
    have hk' : k < 91 := by
      simp [RetN.D] at hk
      omega
    simpa using hk'
  case w0 => exact ⟨rA, rW, (Touch.refl w2 _).drew⟩
  case wc =>
    rintro d w' ⟨p1, p2, p3⟩
    have tt := touch_setCells (w.heap.size + 1) l1 0 w'
    have ls := p3.size
    exact ⟨rangeAt_block p1 (tt.block _ (by omega) (by omega)), p2.block (tt.block g (by omega) (by omega)), p3.trans' tt (fun k _ h => .inr (.inl h))⟩
  case we =>
    rintro w' ⟨p1, p2, p3⟩
    have tt := touch_setCells (w.heap.size + 2) [Value.int .i64 x.hand, .int .i64 x.act, .int .i64 x.at_, .int .u64 x.had, .int .u64 x.put, .bool x.ok] 0 w'
    have ls := p3.size
    exact ⟨rangeAt_block p1 (tt.block _ (by omega) (by omega)), p2.block (tt.block g (by omega) (by omega)), p3.trans' tt (fun k _ h => .inr (.inr h))⟩
  case kinds =>
    intro i o ho
    have hi : i < 13 := by have := (Array.getElem?_eq_some_iff.1 ho).1; simpa using this
    match i, hi with
    | 0, _ => injection ho with ho; subst ho; exact .inl ⟨53, _, rfl, rfl, fun L a w' hI hd => ex_load_row rfl (hI.fix 2 (Reg.notD rfl) (by decide)) hI.world.1 HD.out.1 HD.out.2.1 (by rw [hl1i.out.1]; exact size79)⟩
    | 1, _ => injection ho with ho; subst ho; exact .inl ⟨54, _, rfl, rfl, fun L a w' hI hd => ex_move rfl (hI.fix 1 (Reg.notD rfl) (by decide))⟩
    | 2, _ => injection ho with ho; subst ho; exact .inl ⟨55, _, rfl, rfl, fun L a w' hI hd => ex_field rfl (hI.fix 2 (Reg.notD rfl) (by decide)) (fieldT w' _).1⟩
    | 3, _ => injection ho with ho; subst ho; exact .inl ⟨56, _, rfl, rfl, fun L a w' hI hd => ex_load rfl (hI.pure 2 _ _ rfl (hd ⟨2, .data⟩ (by simp) rfl)) (aggI w') (by have := hI.world.1 6 _ q6; simpa using this)⟩
    | 4, _ => injection ho with ho; subst ho; exact .inl ⟨57, _, rfl, rfl, fun L a w' hI hd => ex_field rfl (hI.fix 2 (Reg.notD rfl) (by decide)) (fieldT w' _).2.1⟩
    | 5, _ => injection ho with ho; subst ho; exact .inl ⟨58, _, rfl, rfl, fun L a w' hI hd => ex_field rfl (hI.pure 4 _ _ rfl (hd ⟨4, .data⟩ (by simp) rfl)) (fieldT w' _).2.2⟩
    | 6, _ => injection ho with ho; subst ho; exact .inl ⟨59, _, rfl, rfl, fun L a w' hI hd => ex_load rfl (hI.pure 5 _ _ rfl (hd ⟨5, .data⟩ (by simp) rfl)) (aggI w') (by have := hI.world.1 5 _ q5; simpa using this)⟩
    | 7, _ => injection ho with ho; subst ho; exact .inl ⟨60, _, rfl, rfl, fun L a w' hI hd => ex_move rfl (hI.fix 7 (Reg.notD rfl) (by decide))⟩
    | 8, _ => injection ho with ho; subst ho; exact .inl ⟨61, _, rfl, rfl, fun L a w' hI hd => ex_add3 rfl (hI.pure 6 _ _ rfl (hd ⟨6, .data⟩ (by simp) rfl)) (hI.pure 7 _ _ rfl (hd ⟨7, .data⟩ (by simp) rfl)) HR5.out⟩
    | 9, _ => injection ho with ho; subst ho; exact .inr (.inl ⟨rfl, rfl, fun L a w' K hI hL hd hk => wp_call (f := 68) (call6 rfl (hI.pure 1 _ _ rfl (hd ⟨1, .data⟩ (by simp) rfl)) (hI.pure 3 _ _ rfl (hd ⟨3, .data⟩ (by simp) rfl)) rfl (hI.pure 8 _ _ rfl (hd ⟨8, .data⟩ (by simp) rfl)) rfl rfl rfl (callRDo _ _)) (by
        have hI2 := hI.world
        rw [hL, if_neg (by decide)] at hI2
        refine (DO.out w' hI2.2.1).mono ?_
        rintro e w1 ⟨rfl, hr1, hg1⟩
        rw [HX.out]
        rw [HF.out] at hr1
        have l1' := hI2.2.2.size
        exact ⟨_, rfl, hk w1 ⟨rangeAt_block hI2.1 (hg1.block w.heap.size (by omega) (by simp; omega)), by rw [if_pos rfl]; exact hr1, hI2.2.2.trans' (Touch.of_grown hg1) (fun k _ h => .inl (by simpa using h))⟩ (there_block hI.tC (hg1.block (w.heap.size + 1) (by omega) (by simp; omega))) (there_block hI.tE (hg1.block (w.heap.size + 2) (by omega) (by simp; omega))) (fun h => rangeAt_block h (hg1.block (w.heap.size + 1) (by omega) (by simp; omega)))⟩)⟩)
    | 10, _ => injection ho with ho; subst ho; exact .inr (.inr (.inl ⟨rfl, rfl, _, _, _, rfl, (by rw [hl1i.out.1]; exact size79), fun L a w' hI hd => ⟨hI.fix 4 (Reg.notD rfl) (by decide), (hI.pure 0 _ _ rfl (hd ⟨0, .data⟩ (by simp) rfl))⟩⟩))
    | 11, _ => injection ho with ho; subst ho; exact .inr (.inr (.inr ⟨rfl, rfl, _, _, _, rfl, size46, fun L a w' hI hd => ⟨hI.fix 5 (Reg.notD rfl) (by decide), hI.call (hd ⟨9, .data⟩ (by simp) rfl), hd ⟨9, .data⟩ (by simp) rfl⟩⟩))
    | 12, _ => injection ho with ho; subst ho; exact .inl ⟨6, _, rfl, rfl, fun L a w' hI hd => ex_assign rfl rfl⟩
  case fin =>
    intro L a' w' hI hall
    rename_i K2 hK2
    refine hK2 _ _ ?_
    have rC := hI.sC (hall 10 (by decide))
    have rD := hI.sE (hall 11 (by decide))
    have pC : a'.eval (.tmp 4) = .pointer (some ⟨w.heap.size + 1, 0, none⟩) := hI.fix 4 (Reg.notD rfl) (by decide)
    have pD : a'.eval (.tmp 5) = .pointer (some ⟨w.heap.size + 2, 0, none⟩) := hI.fix 5 (Reg.notD rfl) (by decide)
    have pe : a'.eval (.tmp 6) = .bool false := hI.pure 12 6 _ rfl (hall 12 (by decide))
    have hw := hI.world
    rw [hall 9 (by decide), if_pos rfl] at hw
    have hdf : a'.defers = [] := hI.df
    have hT := run_loadVar_mid (P := Try.prog) w' (w.heap.size + 1) 0 _ l1 dT rC HD.out.1 HD.out.2.1 (by rw [hl1i.out.1]; exact size79)
    have hS := run_loadVar_mid (P := Try.prog) w' (w.heap.size + 2) 0 _ _ dS rD HD.out.2.2.1 HD.out.2.2.2 size46
    have hres := results_cct (Q := Try.prog) (fn := Try.f63) (tmps := a'.tmps) (t := 4) (t' := 5) (t'' := 6) (W := w') (by rfl) pC hT pD hS
    rw [show a'.tmps.getD 6 undef = .bool false from pe] at hres
    go_wp2
    refine bodyPost_ret (v := .tuple #[.agg l1.toArray, x.val, .bool false]) hres hdf ⟨rfl, hw.2.1, ?_⟩
    have := HTW.out.trans' hw.2.2 (fun k hk h => by rcases h with h | h | h; exact h; omega; omega)
    exact ⟨this.os, this.tape, this.output, this.size, fun k hk hn => this.block k hk (by simpa using hn)⟩


set_option maxHeartbeats 4000000 in
theorem rfinish {w : World} {g n cap : Nat} {f f' : Nat → Int} {x : Stp} {s0 s1 s2 s3 s4 s5 hand a b c hh r val kd : Int} {ok : Bool} (hr : IsRow w g n cap f) (k3 : ¬ kd = 3) (hx : stepOf n f ⟨hand, 2, a, 0, 2, true⟩ = x) (hf' : wordsOf n f ⟨hand, 2, a, 0, 2, true⟩ = f') :
    Calls Try.prog 63 #[.agg (tk ⟨s0, s1, s2, s3, s4, s5⟩ hand ⟨kd, a, b, c, hh⟩ 2 ⟨r, 0, 0, 0, 0, 0, 0, 0⟩ ⟨ok, val⟩).toArray, .slice (some ⟨g, 0, none⟩) n cap] w fun e w' =>
      e = .returned (.tuple #[.agg (tk ⟨s0, s1, s2, s3, s4, s5⟩ hand ⟨kd, a, b, c, hh⟩ 2 ⟨r, 0, 0, 0, 0, 0, 0, 0⟩ ⟨(kd == 1), 1⟩).toArray, x.val, .bool true]) ∧ IsRow w' g n cap f' ∧ w.grownBy w' (some g) := by
  have DO := hide (fun (w' : World) (hr' : IsRow w' g n cap f) => ref_do (s := ⟨hand, 2, a, 0, 2, true⟩) hr' ⟨by show (0 : Int) ≤ 2; decide, by show (2 : Int) ≤ 18446744073709551615; decide⟩ ⟨by show (1 : Int) ≤ 2; decide, by show (2 : Int) ≤ 5; decide⟩)
  have HX := hide hx
  have HF := hide hf'
  have lg := hr.lt
  obtain ⟨l0, hl0⟩ : ∃ l, tk ⟨s0, s1, s2, s3, s4, s5⟩ hand ⟨kd, a, b, c, hh⟩ 2 ⟨r, 0, 0, 0, 0, 0, 0, 0⟩ ⟨ok, val⟩ = l := ⟨_, rfl⟩
  have hl0' : l0.length = 28 := by rw [← hl0]; rfl
  have hset : ((l0.set 22 (.bool (kd == 1))).set 23 (.int .u64 1)) = tk ⟨s0, s1, s2, s3, s4, s5⟩ hand ⟨kd, a, b, c, hh⟩ 2 ⟨r, 0, 0, 0, 0, 0, 0, 0⟩ ⟨(kd == 1), 1⟩ := by rw [← hl0]; rfl
  obtain ⟨l1, hl1⟩ : ∃ l, tk ⟨s0, s1, s2, s3, s4, s5⟩ hand ⟨kd, a, b, c, hh⟩ 2 ⟨r, 0, 0, 0, 0, 0, 0, 0⟩ ⟨(kd == 1), 1⟩ = l := ⟨_, rfl⟩
  rw [hl0, hl1]
  rw [hl1] at hset
  have hl1i := hide (show IsTk l1 from by rw [← hl1]; exact tk_is _ _ _ _ _ _)
  obtain ⟨W3, hW3⟩ : ∃ W3, ((w.alloc (.cells l0.toArray 53)).alloc (.cells tk0.toArray 53)).alloc (.cells [Value.int .i64 0, .int .i64 0, .int .i64 0, .int .u64 0, .int .u64 0, .bool false].toArray 71) = W3 := ⟨_, rfl⟩
  have sz3 : W3.heap.size = w.heap.size + 3 := by rw [← hW3]; simp
  have R0 : W3.rowIs w.heap.size 53 28 (lrow l0) := by rw [← hW3]; exact ((rowL_alloc w l0 _ hl0').alloc _).alloc _
  have R1 : W3.rowIs (w.heap.size + 1) 53 28 (lrow tk0) := by
    rw [← hW3]
    have := (rowL_alloc (w.alloc (.cells l0.toArray 53)) tk0 53 (n := 28) rfl).alloc (.cells [Value.int .i64 0, .int .i64 0, .int .i64 0, .int .u64 0, .int .u64 0, .bool false].toArray 71)
    rwa [World.size_alloc] at this
  have R2 : W3.rowIs (w.heap.size + 2) 71 6 (lrow [Value.int .i64 0, .int .i64 0, .int .i64 0, .int .u64 0, .int .u64 0, .bool false]) := by
    rw [← hW3]
    have := rowL_alloc ((w.alloc (.cells l0.toArray 53)).alloc (.cells tk0.toArray 53)) [Value.int .i64 0, .int .i64 0, .int .i64 0, .int .u64 0, .int .u64 0, .bool false] 71 (n := 6) rfl
    rwa [World.size_alloc, World.size_alloc] at this
  have G3 : w.grownBy W3 (some g) := by rw [← hW3]; exact grown_alloc (grown_alloc (grown_alloc (grown_refl _ _) _) _) _
  have HR3 := hide (show IsRow W3 g n cap f from hr.grown (grown_none (by rw [← hW3]; exact grown_alloc (grown_alloc (grown_alloc (grown_refl _ _) _) _) _) none) (by simp))
  have cell : ∀ i v, l0[i]? = some v → W3.cell? ⟨w.heap.size, i, none⟩ = some v := fun i v hv => by rw [R0.cell (i := i) (by have := (List.getElem?_eq_some_iff.1 hv).1; omega), lrow_of hv]
  have g5 : l0[5]? = some (.int .i64 s5) := by rw [← hl0]; rfl
  have g6 : l0[6]? = some (.int .i64 hand) := by rw [← hl0]; rfl
  have g7 : l0[7]? = some (.int .i64 kd) := by rw [← hl0]; rfl
  have g8 : l0[8]? = some (.int .i64 a) := by rw [← hl0]; rfl
  have g11 : l0[11]? = some (.int .u64 hh) := by rw [← hl0]; rfl
  have g12 : l0[12]? = some (.int .i64 2) := by rw [← hl0]; rfl
  have g13 : l0[13]? = some (.int .u64 r) := by rw [← hl0]; rfl
  have g22 : l0[22]? = some (.bool ok) := by rw [← hl0]; rfl
  have g23 : l0[23]? = some (.int .u64 val) := by rw [← hl0]; rfl
  have c5 := cell 5 _ g5
  have c6 := cell 6 _ g6
  have c7 := cell 7 _ g7
  have c8 := cell 8 _ g8
  have c11 := cell 11 _ g11
  have c12 := cell 12 _ g12
  have c13 := cell 13 _ g13
  have c22 := cell 22 _ g22
  have c23 := cell 23 _ g23
  have G5 := hide g5
  have G6 := hide g6
  have G7 := hide g7
  have G8 := hide g8
  have G11 := hide g11
  have G12 := hide g12
  have G13 := hide g13
  have G22 := hide g22
  have G23 := hide g23
  obtain ⟨dT, hdT1, hdT2⟩ := row79
  obtain ⟨dS, hdS1, hdS2⟩ := row46
  have HD := hide (And.intro hdT1 (And.intro hdT2 (And.intro hdS1 hdS2)))
  have HR0 := hide R0
  have HR1 := hide R1
  have HR2 := hide R2
  have HG3 := hide G3
  have HSET := hide hset
  have HL0 := hide hl0'
  clear hx hf' hr R0 R1 R2 G3 cell hset hl0' hl0 hl1 hdT1 hdT2 hdS1 hdS2 g5 g6 g7 g8 g11 g12 g13 g22 g23
  simp only [tk0] at hW3
  have f22 := HR0.out.frozen 22
  have f23 := HR0.out.frozen 23
  go_enter Try.func63, Try.ntmps63
  go_wp2_with fail
  obtain ⟨w2, hw2⟩ : ∃ w2, ((W3.setCell ⟨w.heap.size, 22, none⟩ (.bool (kd == 1))).setCell ⟨w.heap.size, 23, none⟩ (.int .u64 1)) = w2 := ⟨_, rfl⟩
  have sz2 : w2.heap.size = W3.heap.size := by rw [← hw2]; simp
  have tt2 : Touch W3 w2 (fun k => k = w.heap.size) := by rw [← hw2]; exact (Touch.setCell (S := fun k => k = w.heap.size) (Touch.setCell (S := fun k => k = w.heap.size) (Touch.refl W3 _) ⟨w.heap.size, 22, none⟩ (.inl rfl) _) ⟨w.heap.size, 23, none⟩ (.inl rfl) _)
  have rA : w2.rangeAt w.heap.size 0 l1 := by
    have := rowIs.range (rowIs.setL (rowIs.setL HR0.out (i := 22) (by simp [HL0.out]) (.bool (kd == 1))) (i := 23) (by simp [HL0.out]) (.int .u64 1)) (by simp [HL0.out])
    rw [HSET.out, hw2] at this
    exact this
  have tC : w2.there (w.heap.size + 1) 0 28 := rowIs.there (HR1.out.of_block (tt2.block _ (by omega) (by omega))) (by omega)
  have tD : w2.there (w.heap.size + 2) 0 6 := rowIs.there (HR2.out.of_block (tt2.block _ (by omega) (by omega))) (by omega)
  have rW : IsRow w2 g n cap f := HR3.out.block (tt2.block g (by omega) (by omega))
  have TW : Touch w w2 (fun k => k = g) := ((Touch.of_grown HG3.out).mono (S' := fun k => k = g) (fun k _ h => by simpa using h)).trans' tt2 (fun k hk h => absurd hk (by omega))
  rw [hw2]
  have HTW := hide TW
  have q5 : l1[5]? = some (.int .i64 s5) := by rw [← HSET.out]; simp [G5.out]
  have q6 : l1[6]? = some (.int .i64 hand) := by rw [← HSET.out]; simp [G6.out]
  clear TW hw2 hW3
  refine RetM.region (ks := [(0, 71), (1, 72), (2, 73), (3, 74), (4, 75), (8, 6)]) (vals := fun i => match i with
      | 0 => .agg l1.toArray
      | 1 => .slice (some ⟨g, 0, none⟩) n cap
      | 2 => .pointer (some ⟨w.heap.size, 6, none⟩)
      | 3 => .int .i64 hand
      | 4 => .int .i64 a
      | _ => .bool true) (kc := 5) (sc := 76) (vc := .agg #[Value.int .i64 x.hand, .int .i64 x.act, .int .i64 x.at_, .int .u64 x.had, .int .u64 x.put, .bool x.ok])
      (WI := fun d w' => w'.rangeAt w.heap.size 0 l1 ∧ IsRow w' g n cap (if d = true then f' else f) ∧ Touch w2 w' (fun k => k = g ∨ k = w.heap.size + 1 ∨ k = w.heap.size + 2))
      (C := w.heap.size + 1) (iC := 6) (lt := l1) (E := w.heap.size + 2) (iE := 7) (ls := [Value.int .i64 x.hand, .int .i64 x.act, .int .i64 x.at_, .int .u64 x.had, .int .u64 x.put, .bool x.ok]) (by kernel_rfl) ?gg ?bk rfl (by decide) (by decide) (by decide) (by omega) ?dd (by simp) hl1i.out.2 (by simp [Value.oneCell']) (by rw [hl1i.out.1]; exact tC) tD ?w0 ?wc ?we ?kinds ?fin
  case gg =>
    intro i o ho
    have hi : i < 9 := by have := (Array.getElem?_eq_some_iff.1 ho).1; simpa using this
    match i, hi with
    | 0, _ | 1, _ | 2, _ | 3, _ | 4, _ | 5, _ | 6, _ | 7, _ | 8, _ => injection ho with ho; subst ho; rfl
  case bk =>
    intro i o ho
    have hi : i < 9 := by have := (Array.getElem?_eq_some_iff.1 ho).1; simpa using this
    match i, hi with
    | 0, _ | 1, _ | 2, _ | 3, _ | 4, _ | 5, _ | 6, _ | 7, _ | 8, _ => injection ho with ho; subst ho; simp [Region.binds]
  case dd =>
    intro k hk
    have hk' : k < 91 := by
      simp [RetN.D] at hk
      omega
    simpa using hk'
  case w0 => exact ⟨rA, rW, (Touch.refl w2 _).drew⟩
  case wc =>
    rintro d w' ⟨p1, p2, p3⟩
    have tt := touch_setCells (w.heap.size + 1) l1 0 w'
    have ls := p3.size
    exact ⟨rangeAt_block p1 (tt.block _ (by omega) (by omega)), p2.block (tt.block g (by omega) (by omega)), p3.trans' tt (fun k _ h => .inr (.inl h))⟩
  case we =>
    rintro w' ⟨p1, p2, p3⟩
    have tt := touch_setCells (w.heap.size + 2) [Value.int .i64 x.hand, .int .i64 x.act, .int .i64 x.at_, .int .u64 x.had, .int .u64 x.put, .bool x.ok] 0 w'
    have ls := p3.size
    exact ⟨rangeAt_block p1 (tt.block _ (by omega) (by omega)), p2.block (tt.block g (by omega) (by omega)), p3.trans' tt (fun k _ h => .inr (.inr h))⟩
  case kinds =>
    intro i o ho
    have hi : i < 9 := by have := (Array.getElem?_eq_some_iff.1 ho).1; simpa using this
    match i, hi with
    | 0, _ => injection ho with ho; subst ho; exact .inl ⟨71, _, rfl, rfl, fun L a w' hI hd => ex_load_row rfl (hI.fix 2 (Reg.notD rfl) (by decide)) hI.world.1 HD.out.1 HD.out.2.1 (by rw [hl1i.out.1]; exact size79)⟩
    | 1, _ => injection ho with ho; subst ho; exact .inl ⟨72, _, rfl, rfl, fun L a w' hI hd => ex_move rfl (hI.fix 1 (Reg.notD rfl) (by decide))⟩
    | 2, _ => injection ho with ho; subst ho; exact .inl ⟨73, _, rfl, rfl, fun L a w' hI hd => ex_field rfl (hI.fix 2 (Reg.notD rfl) (by decide)) (fieldT w' _).1⟩
    | 3, _ => injection ho with ho; subst ho; exact .inl ⟨74, _, rfl, rfl, fun L a w' hI hd => ex_load rfl (hI.pure 2 _ _ rfl (hd ⟨2, .data⟩ (by simp) rfl)) (aggI w') (by have := hI.world.1 6 _ q6; simpa using this)⟩
    | 4, _ => injection ho with ho; subst ho; exact .inl ⟨75, _, rfl, rfl, fun L a w' hI hd => ex_move rfl (hI.fix 7 (Reg.notD rfl) (by decide))⟩
    | 5, _ => injection ho with ho; subst ho; exact .inr (.inl ⟨rfl, rfl, fun L a w' K hI hL hd hk => wp_call (f := 68) (call6 rfl (hI.pure 1 _ _ rfl (hd ⟨1, .data⟩ (by simp) rfl)) (hI.pure 3 _ _ rfl (hd ⟨3, .data⟩ (by simp) rfl)) rfl (hI.pure 4 _ _ rfl (hd ⟨4, .data⟩ (by simp) rfl)) rfl rfl rfl (callRDo _ _)) (by
        have hI2 := hI.world
        rw [hL, if_neg (by decide)] at hI2
        refine (DO.out w' hI2.2.1).mono ?_
        rintro e w1 ⟨rfl, hr1, hg1⟩
        rw [HX.out]
        rw [HF.out] at hr1
        have l1' := hI2.2.2.size
        exact ⟨_, rfl, hk w1 ⟨rangeAt_block hI2.1 (hg1.block w.heap.size (by omega) (by simp; omega)), by rw [if_pos rfl]; exact hr1, hI2.2.2.trans' (Touch.of_grown hg1) (fun k _ h => .inl (by simpa using h))⟩ (there_block hI.tC (hg1.block (w.heap.size + 1) (by omega) (by simp; omega))) (there_block hI.tE (hg1.block (w.heap.size + 2) (by omega) (by simp; omega))) (fun h => rangeAt_block h (hg1.block (w.heap.size + 1) (by omega) (by simp; omega)))⟩)⟩)
    | 6, _ => injection ho with ho; subst ho; exact .inr (.inr (.inl ⟨rfl, rfl, _, _, _, rfl, (by rw [hl1i.out.1]; exact size79), fun L a w' hI hd => ⟨hI.fix 4 (Reg.notD rfl) (by decide), (hI.pure 0 _ _ rfl (hd ⟨0, .data⟩ (by simp) rfl))⟩⟩))
    | 7, _ => injection ho with ho; subst ho; exact .inr (.inr (.inr ⟨rfl, rfl, _, _, _, rfl, size46, fun L a w' hI hd => ⟨hI.fix 5 (Reg.notD rfl) (by decide), hI.call (hd ⟨5, .data⟩ (by simp) rfl), hd ⟨5, .data⟩ (by simp) rfl⟩⟩))
    | 8, _ => injection ho with ho; subst ho; exact .inl ⟨6, _, rfl, rfl, fun L a w' hI hd => ex_assign rfl rfl⟩
  case fin =>
    intro L a' w' hI hall
    rename_i K2 hK2
    refine hK2 _ _ ?_
    have rC := hI.sC (hall 6 (by decide))
    have rD := hI.sE (hall 7 (by decide))
    have pC : a'.eval (.tmp 4) = .pointer (some ⟨w.heap.size + 1, 0, none⟩) := hI.fix 4 (Reg.notD rfl) (by decide)
    have pD : a'.eval (.tmp 5) = .pointer (some ⟨w.heap.size + 2, 0, none⟩) := hI.fix 5 (Reg.notD rfl) (by decide)
    have pe : a'.eval (.tmp 6) = .bool true := hI.pure 8 6 _ rfl (hall 8 (by decide))
    have hw := hI.world
    rw [hall 5 (by decide), if_pos rfl] at hw
    have hdf : a'.defers = [] := hI.df
    have hT := run_loadVar_mid (P := Try.prog) w' (w.heap.size + 1) 0 _ l1 dT rC HD.out.1 HD.out.2.1 (by rw [hl1i.out.1]; exact size79)
    have hS := run_loadVar_mid (P := Try.prog) w' (w.heap.size + 2) 0 _ _ dS rD HD.out.2.2.1 HD.out.2.2.2 size46
    have hres := results_cct (Q := Try.prog) (fn := Try.f63) (tmps := a'.tmps) (t := 4) (t' := 5) (t'' := 6) (W := w') (by rfl) pC hT pD hS
    rw [show a'.tmps.getD 6 undef = .bool true from pe] at hres
    go_wp2
    refine bodyPost_ret (v := .tuple #[.agg l1.toArray, x.val, .bool true]) hres hdf ⟨rfl, hw.2.1, ?_⟩
    have := HTW.out.trans' hw.2.2 (fun k hk h => by rcases h with h | h | h; exact h; omega; omega)
    exact ⟨this.os, this.tape, this.output, this.size, fun k hk hn => this.block k hk (by simpa using hn)⟩


end Once
end Go.Proofs.Ytgfbohmehhhbeaa
