/-
  Lemmas: RSame, Cells0, RSameG, RKind, RViews, LViews.
-/
import Derived.Test.YtchhkoalibapiaaTp20
import Derived.Test.YtchhkoalibapiaaTp06
/-
  The reference's comparisons: of steps, of traces.
-/
namespace Go.Proofs.Ytchhkoalibapiaa
open Go.RowKit
set_option linter.unusedVariables false
set_option linter.unusedSimpArgs false
set_option linter.unnecessarySimpa false
set_option maxRecDepth 20000

set_option maxHeartbeats 4000000 in
theorem same_step (w : World) (s : Stp) :
    Calls Try.prog 24 #[s.val, s.val] w fun e w' => e = .returned (.bool true) ∧ Below w.heap.size w w' := by
  obtain ⟨a, b, c, d, e, f⟩ := s
  simp only [Stp.val]
  go_enter Try.func24, Try.ntmps24
  go_wp2_with fail
  go_light
  refine bodyPost_ret (v := .bool true) ?_ rfl ⟨rfl, ((Below.refl _ w).alloc (Nat.le_refl _) _).alloc (by simp) _⟩
  simp [results, Try.results24, go_sem]

theorem ex_not {ev : Operand → Value} {o : Oper} {w : World} {x : Operand} (ho : o.op = .unOp .not 4 x) (hx : ev x = .bool true) : (execOp ev o).run Try.prog w = .ok (.value (.bool false)) w := by
  simp [execOp, ho, hx, go_sem]
theorem field28 (w : World) (b : Nat) : (Instr.fieldAt 32 (.pointer (some ⟨b, 0, none⟩)) 0).run Try.prog w = .ok (.pointer (some ⟨b, 0, none⟩)) w := by simp [go_sem]
theorem agg26 (w : World) : (isAgg 30).run Try.prog w = .ok false w := by simp [go_sem]
theorem sz46 : (Try.prog.info? 57).map (·.size) = some 6 := by kernel_rfl
theorem callSame (args : Array Value) (w : World) : (callFunc 24 args).run Try.prog w = .ok (.enter 24 args) w := by
  simp [go_sem]

set_option maxHeartbeats 8000000 in
theorem same_trace {w : World} {ao ao' aw aw' : Option Addr} {k n cap cap' capw capw' : Nat} {s : Nat → Stp} {f : Nat → Int} {en : Bool} (hs : SeesS w w.heap.size ao k s) (hs' : SeesS w w.heap.size ao' k s) (hw : Sees w w.heap.size aw n f) (hw' : Sees w w.heap.size aw' n f) (hn : n ≤ 4096) (hk : k ≤ 65536) :
    Calls Try.prog 11 #[.agg #[.slice ao k cap, .slice aw n capw, .bool en], .agg #[.slice ao' k cap', .slice aw' n capw', .bool en]] w fun e w' => e = .returned (.bool true) ∧ Below w.heap.size w w' := by
  have HS := hide hs
  have HS' := hide hs'
  have HW := hide hw
  have HW' := hide hw'
  clear hs hs' hw hw'
  obtain ⟨W2, hW2⟩ : ∃ W2, (w.alloc (.cells #[.slice ao k cap, .slice aw n capw, .bool en] 32)).alloc (.cells #[.slice ao' k cap', .slice aw' n capw', .bool en] 32) = W2 := ⟨_, rfl⟩
  have b2 : Below w.heap.size w W2 := by rw [← hW2]; exact ((Below.refl _ w).alloc (Nat.le_refl _) _).alloc (by simp) _
  have sz2 : W2.heap.size = w.heap.size + 2 := by rw [← hW2]; simp
  have R1 := hide (show W2.rowIs w.heap.size 32 3 (lrow [.slice ao k cap, .slice aw n capw, .bool en]) from by rw [← hW2]; exact (rowL_alloc w [.slice ao k cap, .slice aw n capw, .bool en] _ rfl).alloc _)
  have R2 := hide (show W2.rowIs (w.heap.size + 1) 32 3 (lrow [.slice ao' k cap', .slice aw' n capw', .bool en]) from by rw [← hW2]; have := rowL_alloc (w.alloc (.cells #[.slice ao k cap, .slice aw n capw, .bool en] 32)) [.slice ao' k cap', .slice aw' n capw', .bool en] 32 (n := 3) rfl; rwa [World.size_alloc] at this)
  have BW := hide b2
  have s1 : w.heap.size < W2.heap.size := by omega
  have s2 : w.heap.size + 1 < W2.heap.size := by omega
  have c0 : W2.cell? ⟨w.heap.size, 0, none⟩ = some (.slice ao k cap) := R1.out.cell (i := 0) (by omega)
  have c1 : W2.cell? ⟨w.heap.size, 1, none⟩ = some (.slice aw n capw) := R1.out.cell (i := 1) (by omega)
  have c2 : W2.cell? ⟨w.heap.size, 2, none⟩ = some (.bool en) := R1.out.cell (i := 2) (by omega)
  have d0 : W2.cell? ⟨w.heap.size + 1, 0, none⟩ = some (.slice ao' k cap') := R2.out.cell (i := 0) (by omega)
  have d1 : W2.cell? ⟨w.heap.size + 1, 1, none⟩ = some (.slice aw' n capw') := R2.out.cell (i := 1) (by omega)
  have d2 : W2.cell? ⟨w.heap.size + 1, 2, none⟩ = some (.bool en) := R2.out.cell (i := 2) (by omega)
  clear b2
  go_enter Try.func11, Try.ntmps11
  go_wp2_with (go_at_call 23; refine (same_words (HW.out.below BW.out (Nat.le_refl _)) (HW'.out.below BW.out (Nat.le_refl _)) (fun _ _ => rfl) (by omega)).mono ?_; rintro e w' ⟨rfl, m, hw'⟩; subst hw')
  go_loopw [5] (fun i wr => ∃ q : Nat, q ≤ k ∧ i = .int .i64 q ∧ Below W2.heap.size W2 wr) (fun i _ => k - (intOf i).toNat)
  case atStart => exact ⟨0, Nat.zero_le _, rfl, below_drewN (Below.refl _ _) _⟩
  case round =>
    obtain ⟨q, hq, rfl, hb⟩ := hrel
    have HB := hide hb
    have e0 := (hb.cell (p := ⟨w.heap.size, 0, none⟩) s1).trans c0
    have g0 := (hb.cell (p := ⟨w.heap.size + 1, 0, none⟩) s2).trans d0
    by_cases hlt : q < k
    · have hqk : (q : Int) < (k : Int) := by omega
      obtain ⟨b, off, hao, hbl, hc⟩ := HS.out q hlt
      obtain ⟨b', off', hao', hbl', hc'⟩ := HS'.out q hlt
      subst hao hao'
      have old : ∀ (x o : Nat), x < w.heap.size → wr.cell? ⟨x, o, none⟩ = w.cell? ⟨x, o, none⟩ := fun x o hx => (hb.cell (p := ⟨x, o, none⟩) (by show x < _; omega)).trans (BW.out.cell (p := ⟨x, o, none⟩) hx)
      have ST := hide (fun w' => same_step w' (s q))
      obtain ⟨sq, hsq⟩ : ∃ sq, s q = sq := ⟨_, rfl⟩
      rw [hsq] at hc hc' ST
      obtain ⟨v0, v1, v2, v3, v4, v5⟩ := sq
      have W0 : Below wr.heap.size wr wr.drew ∧ wr.cell? ⟨w.heap.size, 0, none⟩ = some (.slice (some ⟨b, off, none⟩) k cap) ∧ wr.cell? ⟨w.heap.size + 1, 0, none⟩ = some (.slice (some ⟨b', off', none⟩) k cap') ∧ wr.rangeAt b (off + q * 6) [.int .i64 v0, .int .i64 v1, .int .i64 v2, .int .u64 v3, .int .u64 v4, .bool v5] ∧ wr.rangeAt b' (off' + q * 6) [.int .i64 v0, .int .i64 v1, .int .i64 v2, .int .u64 v3, .int .u64 v4, .bool v5] := by
        refine ⟨(Below.refl _ _).drew, e0, g0, fun j v hv => ?_, fun j v hv => ?_⟩
        · have hj : j < 6 := (List.getElem?_eq_some_iff.1 hv).1
          rw [old _ _ hbl, hc j hj]
          match j, hj with
          | 0, _ | 1, _ | 2, _ | 3, _ | 4, _ | 5, _ => exact congrArg some (Option.some.inj hv)
        · have hj : j < 6 := (List.getElem?_eq_some_iff.1 hv).1
          rw [old _ _ hbl', hc' j hj]
          match j, hj with
          | 0, _ | 1, _ | 2, _ | 3, _ | 4, _ | 5, _ => exact congrArg some (Option.some.inj hv)
      have HW0 := hide W0
      obtain ⟨dS, hdS⟩ := row46
      have DS := hide hdS
      simp only [Stp.val] at ST
      have m1 : w.heap.size < wr.heap.size := by have := hb.size; omega
      have m2 : w.heap.size + 1 < wr.heap.size := by have := hb.size; omega
      have m3 : b < wr.heap.size := by omega
      have m4 : b' < wr.heap.size := by omega
      clear old hc hc' hb hsq W0 hdS c0 c1 c2 d0 d1 d2
      go_wp2_with fail
      go_cut [46] from 35 to 45 (fun s46 wx => s46 = .bool false ∧ Below wr.heap.size wr wx)
      case first =>
        rename_i K1 J1 hJ1 hK1
        refine Reg.region (t := (⟨[(0, 35), (1, 36), (2, 37), (3, 38), (4, 39), (5, 40), (6, 41), (7, 42), (8, 43), (9, 44), (11, 46)],
            fun i => match i with
              | 0 => .pointer (some ⟨w.heap.size, 0, none⟩)
              | 1 => .slice (some ⟨b, off, none⟩) k cap
              | 3 => .pointer (some ⟨b, off + q * 6, none⟩)
              | 4 => .agg #[.int .i64 v0, .int .i64 v1, .int .i64 v2, .int .u64 v3, .int .u64 v4, .bool v5]
              | 5 => .pointer (some ⟨w.heap.size + 1, 0, none⟩)
              | 6 => .slice (some ⟨b', off', none⟩) k cap'
              | 8 => .pointer (some ⟨b', off' + q * 6, none⟩)
              | 9 => .agg #[.int .i64 v0, .int .i64 v1, .int .i64 v2, .int .u64 v3, .int .u64 v4, .bool v5]
              | 11 => .bool false
              | _ => .int .i64 (q : Int),
            10, 45, .bool true, [], fun _ => (3, []), [], fun _ => []⟩ : Reg.TabL).tab)
          (WI := fun _ w' => Below wr.heap.size wr w' ∧ w'.cell? ⟨w.heap.size, 0, none⟩ = some (.slice (some ⟨b, off, none⟩) k cap) ∧ w'.cell? ⟨w.heap.size + 1, 0, none⟩ = some (.slice (some ⟨b', off', none⟩) k cap') ∧ w'.rangeAt b (off + q * 6) [.int .i64 v0, .int .i64 v1, .int .i64 v2, .int .u64 v3, .int .u64 v4, .bool v5] ∧ w'.rangeAt b' (off' + q * 6) [.int .i64 v0, .int .i64 v1, .int .i64 v2, .int .u64 v3, .int .u64 v4, .bool v5])
          (gw := w.heap.size + 1) (by kernel_rfl) (Reg.TabL.ok _ rfl (fun i j hm => by simp at hm)) ?g6 ?b6 m2 ?alo ?sto ?dd HW0.out ?kinds ?fin
        case g6 =>
          intro i o ho
          have hi : i < 12 := by have := (Array.getElem?_eq_some_iff.1 ho).1; simpa using this
          match i, hi with
          | 0, _ | 1, _ | 2, _ | 3, _ | 4, _ | 5, _ | 6, _ | 7, _ | 8, _ | 9, _ | 10, _ | 11, _ => injection ho with ho; subst ho; rfl
        case b6 =>
          intro i o ho
          have hi : i < 12 := by have := (Array.getElem?_eq_some_iff.1 ho).1; simpa using this
          match i, hi with
          | 0, _ | 1, _ | 2, _ | 3, _ | 4, _ | 5, _ | 6, _ | 7, _ | 8, _ | 9, _ | 10, _ | 11, _ => injection ho with ho; subst ho; simp [Region.binds]
        case alo =>
          rintro _ w' o ⟨h0, h1, h2, h3, h4⟩
          exact ⟨h0.alloc h0.size _, (World.cell?_alloc_lt _ _ _ (World.block_lt_of_cell? _ _ h1)).trans h1, (World.cell?_alloc_lt _ _ _ (World.block_lt_of_cell? _ _ h2)).trans h2, World.rangeAt_alloc h3 o, World.rangeAt_alloc h4 o⟩
        case sto =>
          rintro _ w' x vs ⟨h0, h1, h2, h3, h4⟩ hk
          have tt := touch_setCells x vs 0 w'
          exact ⟨h0.trans (tt.below (fun y hy => by omega) h0.size), (World.cell?_of_block (a := ⟨w.heap.size, 0, none⟩) (tt.block _ (World.block_lt_of_cell? _ _ h1) (by show w.heap.size ≠ x; omega))).trans h1, (World.cell?_of_block (a := ⟨w.heap.size + 1, 0, none⟩) (tt.block _ (World.block_lt_of_cell? _ _ h2) (by show w.heap.size + 1 ≠ x; omega))).trans h2, rangeAt_block h3 (tt.block _ (World.block_lt_of_cell? _ _ (h3 0 _ rfl)) (by show b ≠ x; omega)), rangeAt_block h4 (tt.block _ (World.block_lt_of_cell? _ _ (h4 0 _ rfl)) (by show b' ≠ x; omega))⟩
        case dd =>
          intro x hx
          have hx' : x < 47 := by
            simp [Reg.TabL.tab] at hx
            omega
          simpa using hx'
        case kinds =>
          have hWb : ∀ w1 w2 : World, (Below wr.heap.size wr w1 ∧ w1.cell? ⟨w.heap.size, 0, none⟩ = some (.slice (some ⟨b, off, none⟩) k cap) ∧ w1.cell? ⟨w.heap.size + 1, 0, none⟩ = some (.slice (some ⟨b', off', none⟩) k cap') ∧ w1.rangeAt b (off + q * 6) [.int .i64 v0, .int .i64 v1, .int .i64 v2, .int .u64 v3, .int .u64 v4, .bool v5] ∧ w1.rangeAt b' (off' + q * 6) [.int .i64 v0, .int .i64 v1, .int .i64 v2, .int .u64 v3, .int .u64 v4, .bool v5]) → Below w1.heap.size w1 w2 → (Below wr.heap.size wr w2 ∧ w2.cell? ⟨w.heap.size, 0, none⟩ = some (.slice (some ⟨b, off, none⟩) k cap) ∧ w2.cell? ⟨w.heap.size + 1, 0, none⟩ = some (.slice (some ⟨b', off', none⟩) k cap') ∧ w2.rangeAt b (off + q * 6) [.int .i64 v0, .int .i64 v1, .int .i64 v2, .int .u64 v3, .int .u64 v4, .bool v5] ∧ w2.rangeAt b' (off' + q * 6) [.int .i64 v0, .int .i64 v1, .int .i64 v2, .int .u64 v3, .int .u64 v4, .bool v5]) := by
            rintro w1 w2 ⟨h0, h1, h2, h3, h4⟩ hb
            exact ⟨h0.trans (hb.mono h0.size), (hb.cell (p := ⟨w.heap.size, 0, none⟩) (World.block_lt_of_cell? _ _ h1)).trans h1, (hb.cell (p := ⟨w.heap.size + 1, 0, none⟩) (World.block_lt_of_cell? _ _ h2)).trans h2, rangeAt_block h3 (hb.block _ (World.block_lt_of_cell? _ _ (h3 0 _ rfl))), rangeAt_block h4 (hb.block _ (World.block_lt_of_cell? _ _ (h4 0 _ rfl)))⟩
          intro i o ho
          have hi : i < 12 := by have := (Array.getElem?_eq_some_iff.1 ho).1; simpa using this
          match i, hi with
            | 0, _ => injection ho with ho; subst ho; exact .inl ⟨35, _, rfl, rfl, fun L a w' bk hI hd => ex_field rfl (hI.fix 2 (Reg.notD rfl)) (field28 w' _)⟩
            | 1, _ => injection ho with ho; subst ho; exact .inl ⟨36, _, rfl, rfl, fun L a w' bk hI hd => ex_load rfl (hI.pure 0 _ _ rfl (hd ⟨0, .data⟩ (by simp) rfl)) (agg26 w') hI.world.2.1⟩
            | 2, _ => injection ho with ho; subst ho; exact .inl ⟨37, _, rfl, rfl, fun L a w' bk hI hd => ex_move rfl (hI.fix 5 (Reg.notD rfl))⟩
            | 3, _ => injection ho with ho; subst ho; exact .inl ⟨38, _, rfl, rfl, fun L a w' bk hI hd => ex_index rfl (hI.pure 1 _ _ rfl (hd ⟨1, .data⟩ (by simp) rfl)) (hI.pure 2 _ _ rfl (hd ⟨2, .data⟩ (by simp) rfl)) hlt Try.underlying30 sz46⟩
            | 4, _ => injection ho with ho; subst ho; exact .inl ⟨39, _, rfl, rfl, fun L a w' bk hI hd => ex_load_row rfl (hI.pure 3 _ _ rfl (hd ⟨3, .data⟩ (by simp) rfl)) hI.world.2.2.2.1 DS.out.1 DS.out.2 sz46⟩
            | 5, _ => injection ho with ho; subst ho; exact .inl ⟨40, _, rfl, rfl, fun L a w' bk hI hd => ex_field rfl (hI.fix 3 (Reg.notD rfl)) (field28 w' _)⟩
            | 6, _ => injection ho with ho; subst ho; exact .inl ⟨41, _, rfl, rfl, fun L a w' bk hI hd => ex_load rfl (hI.pure 5 _ _ rfl (hd ⟨5, .data⟩ (by simp) rfl)) (agg26 w') hI.world.2.2.1⟩
            | 7, _ => injection ho with ho; subst ho; exact .inl ⟨42, _, rfl, rfl, fun L a w' bk hI hd => ex_move rfl (hI.fix 5 (Reg.notD rfl))⟩
            | 8, _ => injection ho with ho; subst ho; exact .inl ⟨43, _, rfl, rfl, fun L a w' bk hI hd => ex_index rfl (hI.pure 6 _ _ rfl (hd ⟨6, .data⟩ (by simp) rfl)) (hI.pure 7 _ _ rfl (hd ⟨7, .data⟩ (by simp) rfl)) hlt Try.underlying30 sz46⟩
            | 9, _ => injection ho with ho; subst ho; exact .inl ⟨44, _, rfl, rfl, fun L a w' bk hI hd => ex_load_row rfl (hI.pure 8 _ _ rfl (hd ⟨8, .data⟩ (by simp) rfl)) hI.world.2.2.2.2 DS.out.1 DS.out.2 sz46⟩
            | 10, _ => injection ho with ho; subst ho; exact .inr (.inl ⟨rfl, rfl, fun L a w' bk K hI hL hd hk => wp_call (f := 24) (call2 rfl (hI.pure 4 _ _ rfl (hd ⟨4, .data⟩ (by simp) rfl)) (hI.pure 9 _ _ rfl (hd ⟨9, .data⟩ (by simp) rfl)) rfl (callSame _ _)) ((ST.out w').mono (fun e w'' ⟨he, hb⟩ => ⟨_, he, hk w'' (hWb w' w'' hI.world hb) (Touch.of_below hb _)⟩))⟩)
            | 11, _ => injection ho with ho; subst ho; exact .inl ⟨46, _, rfl, rfl, fun L a w' bk hI hd => ex_not rfl (hI.call (hd ⟨10, .data⟩ (by simp) rfl))⟩
        case fin =>
          intro L a' w' bk hI hall
          refine hK1 _ _ (Met.intro (hJ1 _ _ ?_))
          have ea := act_all a' 47 (by rw [hI.sz]; rfl) hI.df
          simp only [List.range, List.range.loop, List.map] at ea
          rw [hI.fix 0 (Reg.notD rfl), hI.fix 1 (Reg.notD rfl), hI.fix 2 (Reg.notD rfl), hI.fix 3 (Reg.notD rfl), hI.fix 4 (Reg.notD rfl), hI.fix 5 (Reg.notD rfl), hI.fix 6 (Reg.notD rfl), hI.fix 7 (Reg.notD rfl), hI.fix 8 (Reg.notD rfl), hI.fix 9 (Reg.notD rfl), hI.fix 10 (Reg.notD rfl), hI.fix 11 (Reg.notD rfl), hI.fix 12 (Reg.notD rfl), hI.fix 13 (Reg.notD rfl), hI.fix 14 (Reg.notD rfl), hI.fix 15 (Reg.notD rfl), hI.fix 16 (Reg.notD rfl), hI.fix 17 (Reg.notD rfl), hI.fix 18 (Reg.notD rfl), hI.fix 19 (Reg.notD rfl), hI.fix 20 (Reg.notD rfl), hI.fix 21 (Reg.notD rfl), hI.fix 22 (Reg.notD rfl), hI.fix 23 (Reg.notD rfl), hI.fix 24 (Reg.notD rfl), hI.fix 25 (Reg.notD rfl), hI.fix 26 (Reg.notD rfl), hI.fix 27 (Reg.notD rfl), hI.fix 28 (Reg.notD rfl), hI.fix 29 (Reg.notD rfl), hI.fix 30 (Reg.notD rfl), hI.fix 31 (Reg.notD rfl), hI.fix 32 (Reg.notD rfl), hI.fix 33 (Reg.notD rfl), hI.fix 34 (Reg.notD rfl)] at ea
          have p46 := hI.pure 11 46 _ rfl (hall 11 (by decide))
          (repeat apply Exists.intro)
          refine ⟨?rel, ?eq⟩
          case eq => exact ea
          case rel => exact ⟨p46, hI.world.1⟩
      case rest =>
        obtain ⟨rfl, hbx⟩ := hcut
        go_wp2_with fail
        go_roundw
        case rel => exact ⟨q + 1, by omega, by go_num, HB.out.trans (hbx.mono HB.out.size)⟩
        case measure => simp [intOf]; omega
    · have hqk : ¬ (q : Int) < (k : Int) := by omega
      clear hb c0 c1 c2 d0 d1 d2
      go_wp2_with fail
      go_light
      refine bodyPost_ret (v := .bool true) ?_ rfl ⟨rfl, BW.out.trans (HB.out.mono (by omega))⟩
      simp [results, Try.results11, go_sem]
end Go.Proofs.Ytchhkoalibapiaa

/-
  Single cells of rows that grow.
-/
namespace Go.Proofs.Ytchhkoalibapiaa
open Go.RowKit
set_option linter.unusedVariables false
set_option linter.unusedSimpArgs false
set_option maxRecDepth 20000

/-- One cell of what a row that grows holds. -/
theorem grows_cell {blk : Rl → Nat} {c : Rl → Option Row} {r : Rl} {e : TypeId} {sz k : Nat} {xs : List Value} {v : Value} {w : World} {base : Nat} (h : Grows blk c r e sz k xs v) (H : Has w base blk c) (hl : xs.length = k * sz) (hk : 0 < k) :
    ∃ b cap, v = .slice (some ⟨b, 0, none⟩) k cap ∧ b < w.heap.size ∧ base ≤ b ∧ ∀ i u, xs[i]? = some u → w.cell? ⟨b, i, none⟩ = some u := by
  rcases h with ⟨rfl, _⟩ | ⟨cap, F, rfl, hc, hkc, hcm, hp⟩
  · omega
  · refine ⟨blk r, cap, rfl, H.lt hc, H.new _ _ hc, fun i u hu => ?_⟩
    have hi : i < xs.length := by rcases Nat.lt_or_ge i xs.length with l | l; exact l; rw [List.getElem?_eq_none l] at hu; cases hu
    have hlt : i < cap * sz := by have := Nat.mul_le_mul_right sz hkc; omega
    rw [H.cell hc hlt]
    show some (F i) = _
    rw [hp i u hu]

theorem stepCells_get (s : Nat → Stp) (k j i : Nat) (hj : j < k) (hi : i < 6) : (stepCells s k)[j * 6 + i]? = some ((s j).cell i) := by
  induction k with
  | zero => omega
  | succ k ih =>
    simp only [stepCells]
    by_cases e : j = k
    · subst e
      rw [List.getElem?_append_right (by rw [stepCells_length]; omega), stepCells_length, show j * 6 + i - j * 6 = i by omega]
      match i, hi with
      | 0, _ | 1, _ | 2, _ | 3, _ | 4, _ | 5, _ => rfl
    · rw [List.getElem?_append_left (by rw [stepCells_length]; omega)]
      exact ih (by omega)
def Ans.cell (x : Ans) (i : Nat) : Value := match i with | 0 => .bool x.ok | _ => .int .u64 x.val
theorem ansCells_get (a : Nat → Ans) (k j i : Nat) (hj : j < k) (hi : i < 2) : (ansCells a k)[j * 2 + i]? = some (Ans.cell (a j) i) := by
  induction k with
  | zero => omega
  | succ k ih =>
    simp only [ansCells]
    by_cases e : j = k
    · subst e
      rw [List.getElem?_append_right (by rw [ansCells_length]; omega), ansCells_length, show j * 2 + i - j * 2 = i by omega]
      match i, hi with
      | 0, _ | 1, _ => rfl
    · rw [List.getElem?_append_left (by rw [ansCells_length]; omega)]
      exact ih (by omega)

theorem row_arr (w : World) (arr : Array Value) (t : TypeId) : (w.alloc (.cells arr t)).rowIs w.heap.size t arr.size (fun i => arr.getD i undef) :=
  World.rowIs_alloc w arr t _ (fun i hi => by simp [Array.getD, hi])

end Go.Proofs.Ytchhkoalibapiaa

/-
  The reference's comparison of answers; a told run as it is seen.
-/
namespace Go.Proofs.Ytchhkoalibapiaa
open Go.RowKit
set_option linter.unusedVariables false
set_option linter.unusedSimpArgs false
set_option linter.unnecessarySimpa false
set_option maxRecDepth 20000

/-- Answers as they are seen: hand h's slice, its answers. -/
def SeesA (w : World) (B : Nat) (ao : Option Addr) (nh : Nat) (dn : Nat → Nat) (an : Nat → Nat → Ans) : Prop :=
  ∀ h, h < nh → ∃ b off av cap, ao = some ⟨b, off, none⟩ ∧ b < B ∧ w.cell? ⟨b, off + h, none⟩ = some (.slice av (dn h) cap) ∧ ∀ j, j < dn h → ∃ b' off', av = some ⟨b', off', none⟩ ∧ b' < B ∧ ∀ i, i < 2 → w.cell? ⟨b', off' + j * 2 + i, none⟩ = some (Ans.cell (an h j) i)

theorem SeesA.below {w w' : World} {B C : Nat} {ao : Option Addr} {nh : Nat} {dn : Nat → Nat} {an : Nat → Nat → Ans} (S : SeesA w B ao nh dn an) (hb : Below C w w') (hBC : B ≤ C) : SeesA w' B ao nh dn an := fun h hh => by
  obtain ⟨b, off, av, cap, e, hl, hc, hj⟩ := S h hh
  refine ⟨b, off, av, cap, e, hl, (hb.cell (p := ⟨b, off + h, none⟩) (by show b < C; omega)).trans hc, fun j hjj => ?_⟩
  obtain ⟨b', off', e', hl', hc'⟩ := hj j hjj
  exact ⟨b', off', e', hl', fun i hi => (hb.cell (p := ⟨b', off' + j * 2 + i, none⟩) (by show b' < C; omega)).trans (hc' i hi)⟩
theorem SeesA.mono {w : World} {B C : Nat} {ao : Option Addr} {nh : Nat} {dn : Nat → Nat} {an : Nat → Nat → Ans} (S : SeesA w B ao nh dn an) (hBC : B ≤ C) : SeesA w C ao nh dn an := fun h hh => by
  obtain ⟨b, off, av, cap, e, hl, hc, hj⟩ := S h hh
  exact ⟨b, off, av, cap, e, by omega, hc, fun j hjj => by obtain ⟨b', off', e', hl', hc'⟩ := hj j hjj; exact ⟨b', off', e', by omega, hc'⟩⟩

set_option maxHeartbeats 8000000 in
theorem same_answers {w : World} {B : Nat} {ao ao' : Option Addr} {nh cap cap' : Nat} {dn : Nat → Nat} {an : Nat → Nat → Ans} (hs : SeesA w B ao nh dn an) (hs' : SeesA w B ao' nh dn an) (hn : nh ≤ 8) (hd : ∀ h, h < nh → dn h ≤ 256) :
    Calls Try.prog 13 #[.slice ao nh cap, .slice ao' nh cap'] w fun e w' => e = .returned (.bool true) ∧ ∃ m, w' = w.drewN m := by
  have H := hide hs
  have H' := hide hs'
  have HD := hide hd
  clear hs hs' hd
  go_enter Try.func13, Try.ntmps13
  go_wp2_with fail
  go_loopw [5] (fun i wr => ∃ k m : Nat, k ≤ nh ∧ i = .int .i64 k ∧ wr = w.drewN m) (fun i _ => nh - (intOf i).toNat)
  case atStart => exact ⟨0, 0, Nat.zero_le _, rfl, rfl⟩
  case round =>
    obtain ⟨k, m, hk, rfl, rfl⟩ := hrel
    by_cases hlt : k < nh
    · obtain ⟨b, off, av, cv, rfl, hbl, hcc, hj⟩ := H.out k hlt
      obtain ⟨b', off', av', cv', rfl, hbl', hcc', hj'⟩ := H'.out k hlt
      have hkn : (k : Int) < (nh : Int) := by omega
      have hdk := HD.out k hlt
      have HJ := hide hj
      have HJ' := hide hj'
      clear hj hj'
      obtain ⟨dk, hdk'⟩ : ∃ dk, dn k = dk := ⟨_, rfl⟩
      rw [hdk'] at hcc hcc' hdk HJ HJ'
      obtain ⟨ak, hak'⟩ : ∃ ak, an k = ak := ⟨_, rfl⟩
      rw [hak'] at HJ HJ'
      clear hdk' hak'
      go_wp2_with fail
      go_quiet (fail)
      go_wp2_with fail
      go_loopw [6] (fun i wr => ∃ q m : Nat, q ≤ dk ∧ i = .int .i64 q ∧ wr = w.drewN m) (fun i _ => dk - (intOf i).toNat)
      case atStart => exact ⟨0, _, Nat.zero_le _, rfl, World.drewN_drewN ..⟩
      case round =>
        obtain ⟨q, m', hq, rfl, rfl⟩ := hrel
        by_cases hlq : q < dk
        · obtain ⟨bj, oj, rfl, hlj, hcj⟩ := HJ.out q hlq
          obtain ⟨bj', oj', rfl, hlj', hcj'⟩ := HJ'.out q hlq
          have hqn : (q : Int) < (dk : Int) := by omega
          have p0 := hcj 0 (by omega)
          have p1 := hcj 1 (by omega)
          have r0 := hcj' 0 (by omega)
          have r1 := hcj' 1 (by omega)
          simp only [Ans.cell, Nat.add_zero] at p0 p1 r0 r1
          clear hcj hcj'
          go_wp2_with fail
          go_quiet (fail)
          go_wp2_with fail
          go_roundw
          case rel => exact ⟨q + 1, _, by omega, by go_num, rfl⟩
          case measure => simp [intOf]; omega
        · have hqn : ¬ (q : Int) < (dk : Int) := by omega
          go_wp2_with fail
          go_roundw
          case rel => exact ⟨k + 1, _, by omega, by go_num, rfl⟩
          case measure => simp [intOf]; omega
    · have hkn : ¬ (k : Int) < (nh : Int) := by omega
      go_wp2_with fail
      go_ret
      exact ⟨rfl, _, rfl⟩

/-- A grown slice of steps, as it is seen. -/
theorem Grows.seesS {blk : Rl → Nat} {c : Rl → Option Row} {k : Nat} {s : Nat → Stp} {w : World} {base : Nat} {sa : Option Addr} {sc : Nat} (h : Grows blk c .steps 57 6 k (stepCells s k) (.slice sa k sc)) (H : Has w base blk c) : SeesS w w.heap.size sa k s := fun j hj => by
  obtain ⟨b, cap, e, hl, _, hc⟩ := grows_cell h H (stepCells_length _ _) (by omega)
  injection e with e1 _ _
  refine ⟨b, 0, e1, hl, fun i hi => ?_⟩
  rw [Nat.zero_add]
  exact hc _ _ (stepCells_get s k j i hj hi)
/-- The answers, as they are seen. -/
theorem seesA_of {blk : Rl → Nat} {c : Rl → Option Row} {K : Kd} {st : St K} {P : Par} {w : World} {base : Nat} (h : ∃ A, c .answers = some ⟨63, P.nh, A⟩ ∧ ∀ h, h < P.nh → Grows blk c (.arow h) 65 2 (st.done h) (ansCells (st.ans h) (st.done h)) (A h)) (H : Has w base blk c) :
    SeesA w w.heap.size (some ⟨blk .answers, 0, none⟩) P.nh st.done st.ans := fun h' hh => by
  obtain ⟨A, eA, hA⟩ := h
  obtain ⟨av, cv, ev⟩ := (hA h' hh).isSlice
  refine ⟨_, 0, av, cv, rfl, H.lt eA, ?_, fun j hj => ?_⟩
  · rw [Nat.zero_add, ← ev]; exact H.cell eA (i := h') hh
  · obtain ⟨b, cap, e, hl, _, hc⟩ := grows_cell (hA h' hh) H (ansCells_length _ _) (by omega)
    rw [ev] at e
    injection e with e1 _ _
    refine ⟨b, 0, e1, hl, fun i hi => ?_⟩
    rw [Nat.zero_add]
    exact hc _ _ (ansCells_get (st.ans h') (st.done h') j i hj hi)
theorem RGood.seesW {K : Kd} {rep : List Value → K.σ → Prop} {P : Par} {blk : Rl → Nat} {c : Rl → Option Row} {st : St K} {un : Nat → Bool} {capw : Nat} {sv : Value} {w : World} {base : Nat} (G : RGood K rep P blk c st un capw sv) (H : Has w base blk c) : Sees w w.heap.size (some ⟨blk .words, 0, none⟩) P.n st.f := fun j hj => by
  obtain ⟨F, e, h1, _, h2⟩ := G.words
  refine ⟨_, 0, rfl, H.lt e, ?_⟩
  rw [Nat.zero_add, H.cell e (i := j) (by show j < capw; omega)]
  exact congrArg some (h2 j hj)

theorem first_not (p : Nat → Prop) : ∀ n, (∀ i, i < n → p i) ∨ ∃ i, i < n ∧ ¬ p i ∧ ∀ j, j < i → p j
  | 0 => .inl (fun i hi => absurd hi (Nat.not_lt_zero i))
  | n + 1 => by
    rcases first_not p n with h | ⟨i, hi, h1, h2⟩
    · by_cases hp : p n
      · exact .inl (fun i hi => by rcases Nat.lt_or_ge i n with l | l; exact h i l; obtain rfl : i = n := (by omega); exact hp)
      · exact .inr ⟨n, by omega, hp, h⟩
    · exact .inr ⟨i, by omega, h1, h2⟩
theorem allOk_or (K : Kd) (P : Par) : AllOk K P ∨ ∃ e, FirstErr K P e := by
  rcases first_not (fun h => ∀ j, j < P.jn h → K.err h (P.jb h j) = 0) P.nh with h | ⟨H, hH, h1, h2⟩
  · exact .inl h
  · rcases first_not (fun j => K.err H (P.jb H j) = 0) (P.jn H) with h | ⟨J, hJ, h3, h4⟩
    · exact absurd h h1
    · exact .inr ⟨_, H, J, hH, hJ, rfl, h3, h2, h4⟩
theorem ErrOf.one {K : Kd} {P : Par} {most e e' : Int} (h : ErrOf K P most e) (h' : ErrOf K P most e') : e = e' := by
  have neg : ¬ (LongHands P.nh P.jn ∨ 65536 < P.ns ∨ 65536 < most) ∨ (LongHands P.nh P.jn ∨ 65536 < P.ns ∨ 65536 < most) := (Classical.em _).symm
  rcases h with ⟨a1, rfl⟩ | ⟨a1, a2, rfl⟩ | ⟨a1, a2, a3, a4, rfl⟩ | ⟨⟨a1, a2, a3, a4, a5⟩, a6⟩ <;> rcases h' with ⟨b1, rfl⟩ | ⟨b1, b2, rfl⟩ | ⟨b1, b2, b3, b4, rfl⟩ | ⟨⟨b1, b2, b3, b4, b5⟩, b6⟩
  all_goals first
    | rfl
    | (exfalso; omega)
    | (exfalso; rcases a2 with a2 | a2 | a2; exact b2 a2; omega; omega)
    | (exfalso; rcases b2 with b2 | b2 | b2; exact a2 b2; omega; omega)
    | exact a6.one b6
theorem ErrOf.not {K : Kd} {P : Par} {most e : Int} (h : ErrOf K P most e) : ¬ (Fine P most ∧ AllOk K P) := by
  rintro ⟨⟨b1, b2, b3, b4, b5⟩, b6⟩
  rcases h with ⟨a1, _⟩ | ⟨a1, a2, _⟩ | ⟨a1, a2, a3, a4, _⟩ | ⟨_, a6⟩
  · omega
  · rcases a2 with a2 | a2 | a2
    · exact b2 a2
    · omega
    · omega
  · omega
  · exact a6.not b6

end Go.Proofs.Ytchhkoalibapiaa

/-
  What a layer's reference does with its tasks.
-/
namespace Go.Proofs.Ytchhkoalibapiaa
open Go.RowKit
set_option linter.unusedVariables false

structure RKind (K : Kd) (rep : List Value → K.σ → Prop) (sh : Shp) (fst fsp : FuncId) : Prop where
  start : ∀ (k : Int) (j : Jb), 0 ≤ k → k < 8 → j.wf → ∃ cs, IsTk cs ∧ (K.err k j = 0 → rep cs (K.init k j)) ∧ ∀ w : World, Calls Try.prog fst #[sh.val, .int .i64 k, j.val, kept0] w fun e w' => e = .returned (.tuple #[.agg cs.toArray, .int .i64 (K.err k j)]) ∧ Below w.heap.size w w'
  step : ∀ (cs : List Value) (s : K.σ), IsTk cs → rep cs s → ∀ (n : Nat) (f : Nat → Int), (∀ i, i < n → 0 ≤ f i ∧ f i ≤ 18446744073709551615) → ∃ cs', IsTk cs' ∧ (¬ K.ends s (stepOf n f (K.req s)) = true → rep cs' (K.next s (stepOf n f (K.req s)))) ∧
    (K.ends s (stepOf n f (K.req s)) = true → cs'[22]? = some (.bool (K.tell (K.next s (stepOf n f (K.req s)))).ok) ∧ cs'[23]? = some (.int .u64 (K.tell (K.next s (stepOf n f (K.req s)))).val)) ∧ (∀ q, q < 4 → cs'[24 + q]? = some (.int .u64 0)) ∧
    ∀ (w : World) (g cap : Nat), IsRow w g n cap f → Calls Try.prog fsp #[.agg cs.toArray, .slice (some ⟨g, 0, none⟩) n cap] w fun e w' => e = .returned (.tuple #[.agg cs'.toArray, (stepOf n f (K.req s)).val, .bool (K.ends s (stepOf n f (K.req s)))]) ∧ IsRow w' g n cap (wordsOf n f (K.req s)) ∧ w.grownBy w' (some g)
end Go.Proofs.Ytchhkoalibapiaa

/-
  What both sides tell of a run.
-/
namespace Go.Proofs.Ytchhkoalibapiaa
open Go.RowKit
set_option linter.unusedVariables false
set_option linter.unusedSimpArgs false
set_option linter.unnecessarySimpa false
set_option maxRecDepth 20000

/-- What a run tells. -/
structure Vw where
  k : Nat
  s : Nat → Stp
  n : Nat
  f : Nat → Int
  en : Bool
  m : Nat
  dn : Nat → Nat
  an : Nat → Nat → Ans
  er : Int

/-- A told value, as it is seen. -/
def TV (w : World) (V : Vw) (v : Value) : Prop :=
  ∃ sa sc wa wc aa ac, v = .tuple #[.agg #[.slice sa V.k sc, .slice wa V.n wc, .bool V.en], .slice aa V.m ac, .int .i64 V.er] ∧ SeesS w w.heap.size sa V.k V.s ∧ Sees w w.heap.size wa V.n V.f ∧ SeesA w w.heap.size aa V.m V.dn V.an

/-- ran, whatever it is given. -/
def RAllR (K : Kd) (rep : List Value → K.σ → Prop) (w : World) (P : Par) (f : Nat → Int) (most : Int) (e : Ending) (w' : World) : Prop :=
  Below w.heap.size w w' ∧ ((∃ er, ErrOf K P most er ∧ e = .returned (errVal er)) ∨ (Fine P most ∧ AllOk K P ∧ ∃ v, e = .returned v ∧ RTold K rep P (runSt P (st0 K P f) most.toNat) (w.heap.size + 1) v w'))

theorem views (K : Kd) (rep : List Value → K.σ → Prop) (P : Par) (f : Nat → Int) (most : Int) : ∃ V : Vw, V.k ≤ 65536 ∧ V.n ≤ 4096 ∧ V.m ≤ 8 ∧ (∀ h, h < V.m → V.dn h ≤ 256) ∧
    (∀ w e w', RAllR K rep w P f most e w' → Below w.heap.size w w' ∧ ∃ v, e = .returned v ∧ TV w' V v) ∧ (∀ w e w', OfAny.AllB K w P f most e w' → Below w.heap.size w w' ∧ ∃ v, e = .returned v ∧ TV w' V v) := by
  by_cases hE : ∃ er, ErrOf K P most er
  · obtain ⟨er, hE⟩ := hE
    have tv : ∀ w, TV w ⟨0, fun _ => ⟨0, 0, 0, 0, 0, false⟩, 0, fun _ => 0, false, 0, fun _ => 0, fun _ _ => ⟨false, 0⟩, er⟩ (errVal er) := fun w => ⟨none, 0, none, 0, none, 0, rfl, fun j hj => absurd hj (Nat.not_lt_zero j), fun j hj => absurd hj (Nat.not_lt_zero j), fun j hj => absurd hj (Nat.not_lt_zero j)⟩
    refine ⟨⟨0, fun _ => ⟨0, 0, 0, 0, 0, false⟩, 0, fun _ => 0, false, 0, fun _ => 0, fun _ _ => ⟨false, 0⟩, er⟩, Nat.zero_le _, Nat.zero_le _, Nat.zero_le _, fun _ _ => Nat.zero_le _, ?_, ?_⟩
    · rintro w e w' ⟨hb, ⟨er', h, rfl⟩ | ⟨h1, h2, _⟩⟩
      · obtain rfl := h.one hE
        exact ⟨hb, _, rfl, tv w'⟩
      · exact absurd ⟨h1, h2⟩ hE.not
    · rintro w e w' ⟨hb, ⟨er', h, rfl⟩ | ⟨h1, h2, _⟩⟩
      · obtain rfl := h.one hE
        exact ⟨hb, _, rfl, tv w'⟩
      · exact absurd ⟨h1, h2⟩ hE.not
  · by_cases hf : Fine P most
    · have st := runSt P (st0 K P f) most.toNat
      have hk : (runSt P (st0 K P f) most.toNat).k ≤ 65536 := by
        have := (runSt_k P (st0 K P f) rfl most.toNat).1
        have := hf.2.2.2
        omega
      have hnh : P.nh ≤ 8 := by rcases Nat.lt_or_ge 8 P.nh with l | l; exact absurd (.inl l) hf.2.1; exact l
      by_cases hd : ∀ h, h < P.nh → (runSt P (st0 K P f) most.toNat).done h ≤ 256
      · refine ⟨⟨(runSt P (st0 K P f) most.toNat).k, (runSt P (st0 K P f) most.toNat).s, P.n, (runSt P (st0 K P f) most.toNat).f, decide (cnt ((runSt P (st0 K P f) most.toNat).going P) P.nh = 0), P.nh, (runSt P (st0 K P f) most.toNat).done, (runSt P (st0 K P f) most.toNat).ans, 0⟩, hk, hf.1, hnh, hd, ?_, ?_⟩
        · rintro w e w' ⟨hb, ⟨er', h, rfl⟩ | ⟨h1, h2, v, rfl, blk, c, un, capw, sv, rfl, H, G⟩⟩
          · exact absurd ⟨_, h⟩ hE
          · obtain ⟨sa, sc, rfl⟩ := G.steps.isSlice'
            exact ⟨hb, _, rfl, sa, sc, _, _, _, _, rfl, G.steps.seesS H, G.seesW H, seesA_of G.answers H⟩
        · rintro w e w' ⟨hb, ⟨er', h, rfl⟩ | ⟨h1, h2, v, rfl, blk, c, g, sv, rfl, H, G, GS, R, hg, hne⟩⟩
          · exact absurd ⟨_, h⟩ hE
          · obtain ⟨sa, sc, rfl⟩ := GS.isSlice'
            exact ⟨hb, _, rfl, sa, sc, _, _, _, _, rfl, GS.seesS H, R.sees, seesA_of G.answers H⟩
      · refine ⟨⟨0, fun _ => ⟨0, 0, 0, 0, 0, false⟩, 0, fun _ => 0, false, 0, fun _ => 0, fun _ _ => ⟨false, 0⟩, 0⟩, Nat.zero_le _, Nat.zero_le _, Nat.zero_le _, fun _ _ => Nat.zero_le _, ?_, ?_⟩
        · rintro w e w' ⟨hb, ⟨er', h, rfl⟩ | ⟨h1, h2, v, rfl, blk, c, un, capw, sv, rfl, H, G⟩⟩
          · exact absurd ⟨_, h⟩ hE
          · exact absurd (fun h hh => Nat.le_trans (G.doneLe h hh) (G.jobs h hh)) hd
        · rintro w e w' ⟨hb, ⟨er', h, rfl⟩ | ⟨h1, h2, v, rfl, blk, c, g, sv, rfl, H, G, GS, R, hg, hne⟩⟩
          · exact absurd ⟨_, h⟩ hE
          · exact absurd (fun h hh => Nat.le_trans (G.doneLe h hh) (G.jobs h hh)) hd
    · refine ⟨⟨0, fun _ => ⟨0, 0, 0, 0, 0, false⟩, 0, fun _ => 0, false, 0, fun _ => 0, fun _ _ => ⟨false, 0⟩, 0⟩, Nat.zero_le _, Nat.zero_le _, Nat.zero_le _, fun _ _ => Nat.zero_le _, ?_, ?_⟩
      · rintro w e w' ⟨hb, ⟨er', h, rfl⟩ | ⟨h1, _⟩⟩
        · exact absurd ⟨_, h⟩ hE
        · exact absurd h1 hf
      · rintro w e w' ⟨hb, ⟨er', h, rfl⟩ | ⟨h1, _⟩⟩
        · exact absurd ⟨_, h⟩ hE
        · exact absurd h1 hf

end Go.Proofs.Ytchhkoalibapiaa

/-
  What both sides of a layer's run tell.
-/
namespace Go.Proofs.Ytchhkoalibapiaa
open Go.RowKit
set_option linter.unusedVariables false
set_option linter.unusedSimpArgs false
set_option linter.unnecessarySimpa false
set_option maxRecDepth 20000

def RLAll (K : Kd) (rep : List Value → K.σ → Prop) (want : Nat) (w : World) (P : Par) (f : Nat → Int) (most : Int) (e : Ending) (w' : World) : Prop :=
  Below w.heap.size w w' ∧ ((∃ er, LErr K want P most er ∧ e = .returned (errVal er)) ∨ (P.n = want ∧ Fine P most ∧ AllOk K P ∧ ∃ v, e = .returned v ∧ RTold K rep P (runSt P (st0 K P f) most.toNat) w.heap.size v w'))

theorem LErr.one {K : Kd} {want : Nat} {P : Par} {most e e' : Int} (h : LErr K want P most e) (h' : LErr K want P most e') : e = e' := by
  rcases h with ⟨a, rfl⟩ | ⟨a, h⟩
  · rcases h' with ⟨_, rfl⟩ | ⟨b, _⟩
    · rfl
    · exact absurd b a
  · rcases h' with ⟨b, _⟩ | ⟨_, h'⟩
    · exact absurd a b
    · exact h.one h'
theorem LErr.not {K : Kd} {want : Nat} {P : Par} {most e : Int} (h : LErr K want P most e) (h0 : P.n = want) : ¬ (Fine P most ∧ AllOk K P) := by
  rcases h with ⟨a, _⟩ | ⟨_, h⟩
  · exact absurd h0 a
  · exact h.not

theorem rtold_touch {K : Kd} {rep : List Value → K.σ → Prop} {P : Par} {st : St K} {base base' b : Nat} {v : Value} {w w' : World} (h : RTold K rep P st base v w) (ht : Touch w w' (fun k => k = b)) (hb : b < base) (hbb : base' ≤ base) : RTold K rep P st base' v w' := by
  obtain ⟨blk, c, un, capw, sv, rfl, H, G⟩ := h
  exact ⟨blk, c, un, capw, sv, rfl, ((H.touch ht (fun r x e he => by have := H.new r x e; omega))).base_le hbb, G⟩
theorem RLAll.up {K : Kd} {rep : List Value → K.σ → Prop} {want : Nat} {w0 w w' w2 : World} {P : Par} {f : Nat → Int} {most : Int} {e : Ending} {b : Nat} (h : RLAll K rep want w P f most e w') (h0 : Below w0.heap.size w0 w) (ht : Touch w' w2 (fun k => k = b)) (hb0 : w0.heap.size ≤ b) (hb : b < w.heap.size) : RLAll K rep want w0 P f most e w2 := by
  obtain ⟨hB, hc⟩ := h
  refine ⟨(h0.trans (hB.mono h0.size)).trans (ht.below (fun k hk => by omega) (Nat.le_trans h0.size hB.size)), ?_⟩
  rcases hc with h | ⟨h1, h2, h3, v, he, hT⟩
  · exact .inl h
  · exact .inr ⟨h1, h2, h3, v, he, rtold_touch hT ht hb h0.size⟩
theorem RLAll.shape {K : Kd} {rep : List Value → K.σ → Prop} {want : Nat} {w w' : World} {P : Par} {f : Nat → Int} {most : Int} {e : Ending} (h : RLAll K rep want w P f most e w') : ∃ sa k sc wa n wc en aa m ac er, e = .returned (tv3 sa k sc wa n wc en aa m ac er) := by
  rcases h.2 with ⟨er, _, rfl⟩ | ⟨_, _, _, v, rfl, blk, c, un, capw, sv, rfl, H, G⟩
  · exact ⟨none, 0, 0, none, 0, 0, false, none, 0, 0, er, rfl⟩
  · obtain ⟨sa, sc, rfl⟩ := G.steps.isSlice'
    exact ⟨_, _, _, _, _, _, _, _, _, _, _, rfl⟩

theorem lviews (K : Kd) (rep : List Value → K.σ → Prop) (want : Nat) (P : Par) (f : Nat → Int) (most : Int) : ∃ V : Vw, V.k ≤ 65536 ∧ V.n ≤ 4096 ∧ V.m ≤ 8 ∧ (∀ h, h < V.m → V.dn h ≤ 256) ∧
    (∀ w e w', RLAll K rep want w P f most e w' → Below w.heap.size w w' ∧ ∃ v, e = .returned v ∧ TV w' V v) ∧ (∀ w e w', LAll K want w P f most e w' → Below w.heap.size w w' ∧ ∃ v, e = .returned v ∧ TV w' V v) := by
  by_cases hE : ∃ er, LErr K want P most er
  · obtain ⟨er, hE⟩ := hE
    have tv : ∀ w, TV w ⟨0, fun _ => ⟨0, 0, 0, 0, 0, false⟩, 0, fun _ => 0, false, 0, fun _ => 0, fun _ _ => ⟨false, 0⟩, er⟩ (errVal er) := fun w => ⟨none, 0, none, 0, none, 0, rfl, fun j hj => absurd hj (Nat.not_lt_zero j), fun j hj => absurd hj (Nat.not_lt_zero j), fun j hj => absurd hj (Nat.not_lt_zero j)⟩
    refine ⟨⟨0, fun _ => ⟨0, 0, 0, 0, 0, false⟩, 0, fun _ => 0, false, 0, fun _ => 0, fun _ _ => ⟨false, 0⟩, er⟩, Nat.zero_le _, Nat.zero_le _, Nat.zero_le _, fun _ _ => Nat.zero_le _, ?_, ?_⟩
    · rintro w e w' ⟨hb, ⟨er', h, rfl⟩ | ⟨h0, h1, h2, _⟩⟩
      · obtain rfl := h.one hE
        exact ⟨hb, _, rfl, tv w'⟩
      · exact absurd ⟨h1, h2⟩ (hE.not h0)
    · rintro w e w' ⟨hb, ⟨er', h, rfl⟩ | ⟨h0, h1, h2, _⟩⟩
      · obtain rfl := h.one hE
        exact ⟨hb, _, rfl, tv w'⟩
      · exact absurd ⟨h1, h2⟩ (hE.not h0)
  · by_cases hf : Fine P most
    · have st := runSt P (st0 K P f) most.toNat
      have hk : (runSt P (st0 K P f) most.toNat).k ≤ 65536 := by
        have := (runSt_k P (st0 K P f) rfl most.toNat).1
        have := hf.2.2.2
        omega
      have hnh : P.nh ≤ 8 := by rcases Nat.lt_or_ge 8 P.nh with l | l; exact absurd (.inl l) hf.2.1; exact l
      by_cases hd : ∀ h, h < P.nh → (runSt P (st0 K P f) most.toNat).done h ≤ 256
      · refine ⟨⟨(runSt P (st0 K P f) most.toNat).k, (runSt P (st0 K P f) most.toNat).s, P.n, (runSt P (st0 K P f) most.toNat).f, decide (cnt ((runSt P (st0 K P f) most.toNat).going P) P.nh = 0), P.nh, (runSt P (st0 K P f) most.toNat).done, (runSt P (st0 K P f) most.toNat).ans, 0⟩, hk, hf.1, hnh, hd, ?_, ?_⟩
        · rintro w e w' ⟨hb, ⟨er', h, rfl⟩ | ⟨h0, h1, h2, v, rfl, blk, c, un, capw, sv, rfl, H, G⟩⟩
          · exact absurd ⟨_, h⟩ hE
          · obtain ⟨sa, sc, rfl⟩ := G.steps.isSlice'
            exact ⟨hb, _, rfl, sa, sc, _, _, _, _, rfl, G.steps.seesS H, G.seesW H, seesA_of G.answers H⟩
        · rintro w e w' ⟨hb, ⟨er', h, rfl⟩ | ⟨h0, h1, h2, v, rfl, blk, c, g, sv, rfl, H, G, GS, R, hg, hne⟩⟩
          · exact absurd ⟨_, h⟩ hE
          · obtain ⟨sa, sc, rfl⟩ := GS.isSlice'
            exact ⟨hb, _, rfl, sa, sc, _, _, _, _, rfl, GS.seesS H, R.sees, seesA_of G.answers H⟩
      · refine ⟨⟨0, fun _ => ⟨0, 0, 0, 0, 0, false⟩, 0, fun _ => 0, false, 0, fun _ => 0, fun _ _ => ⟨false, 0⟩, 0⟩, Nat.zero_le _, Nat.zero_le _, Nat.zero_le _, fun _ _ => Nat.zero_le _, ?_, ?_⟩
        · rintro w e w' ⟨hb, ⟨er', h, rfl⟩ | ⟨h0, h1, h2, v, rfl, blk, c, un, capw, sv, rfl, H, G⟩⟩
          · exact absurd ⟨_, h⟩ hE
          · exact absurd (fun h hh => Nat.le_trans (G.doneLe h hh) (G.jobs h hh)) hd
        · rintro w e w' ⟨hb, ⟨er', h, rfl⟩ | ⟨h0, h1, h2, v, rfl, blk, c, g, sv, rfl, H, G, GS, R, hg, hne⟩⟩
          · exact absurd ⟨_, h⟩ hE
          · exact absurd (fun h hh => Nat.le_trans (G.doneLe h hh) (G.jobs h hh)) hd
    · refine ⟨⟨0, fun _ => ⟨0, 0, 0, 0, 0, false⟩, 0, fun _ => 0, false, 0, fun _ => 0, fun _ _ => ⟨false, 0⟩, 0⟩, Nat.zero_le _, Nat.zero_le _, Nat.zero_le _, fun _ _ => Nat.zero_le _, ?_, ?_⟩
      · rintro w e w' ⟨hb, ⟨er', h, rfl⟩ | ⟨h0, h1, _⟩⟩
        · exact absurd ⟨_, h⟩ hE
        · exact absurd h1 hf
      · rintro w e w' ⟨hb, ⟨er', h, rfl⟩ | ⟨h0, h1, _⟩⟩
        · exact absurd ⟨_, h⟩ hE
        · exact absurd h1 hf


variable {K : Kd} {rep : List Value → K.σ → Prop} {sh : Shp} {want : Nat} {w : World} {ao aoh aos : Option Addr} {cap caph caps : Nat} {P : Par} {f : Nat → Int} {most : Int}
end Go.Proofs.Ytchhkoalibapiaa
