/-
  The reference's comparisons: of steps, of traces.
-/
import Derived.Test.YtdbiphibdaghkaaRActs
namespace Go.Proofs.Ytdbiphibdaghkaa
open Go.RowKit
set_option linter.unusedVariables false
set_option linter.unusedSimpArgs false
set_option linter.unnecessarySimpa false
set_option maxRecDepth 20000

set_option maxHeartbeats 4000000 in
theorem same_step (w : World) (s : Stp) :
    Calls Try.prog 42 #[s.val, s.val] w fun e w' => e = .returned (.bool true) ∧ Below w.heap.size w w' := by
  obtain ⟨a, b, c, d, e, f⟩ := s
  simp only [Stp.val]
  go_enter Try.func42, Try.ntmps42
  go_wp2_with fail
  go_light
  refine bodyPost_ret (v := .bool true) ?_ rfl ⟨rfl, ((Below.refl _ w).alloc (Nat.le_refl _) _).alloc (by simp) _⟩
  simp [results, Try.results42, go_sem]

theorem ex_not {ev : Operand → Value} {o : Oper} {w : World} {x : Operand} (ho : o.op = .unOp .not 4 x) (hx : ev x = .bool true) : (execOp ev o).run Try.prog w = .ok (.value (.bool false)) w := by
  simp [execOp, ho, hx, go_sem]
theorem field28 (w : World) (b : Nat) : (Instr.fieldAt 28 (.pointer (some ⟨b, 0, none⟩)) 0).run Try.prog w = .ok (.pointer (some ⟨b, 0, none⟩)) w := by simp [go_sem]
theorem agg26 (w : World) : (isAgg 26).run Try.prog w = .ok false w := by simp [go_sem]
theorem sz46 : (Try.prog.info? 46).map (·.size) = some 6 := by kernel_rfl
theorem callSame (args : Array Value) (w : World) : (callFunc 42 args).run Try.prog w = .ok (.enter 42 args) w := by
  simp [go_sem]

set_option maxHeartbeats 8000000 in
theorem same_trace {w : World} {ao ao' aw aw' : Option Addr} {k n cap cap' capw capw' : Nat} {s : Nat → Stp} {f : Nat → Int} {en : Bool} (hs : SeesS w w.heap.size ao k s) (hs' : SeesS w w.heap.size ao' k s) (hw : Sees w w.heap.size aw n f) (hw' : Sees w w.heap.size aw' n f) (hn : n ≤ 4096) (hk : k ≤ 65536) :
    Calls Try.prog 12 #[.agg #[.slice ao k cap, .slice aw n capw, .bool en], .agg #[.slice ao' k cap', .slice aw' n capw', .bool en]] w fun e w' => e = .returned (.bool true) ∧ Below w.heap.size w w' := by
  have HS := hide hs
  have HS' := hide hs'
  have HW := hide hw
  have HW' := hide hw'
  clear hs hs' hw hw'
  obtain ⟨W2, hW2⟩ : ∃ W2, (w.alloc (.cells #[.slice ao k cap, .slice aw n capw, .bool en] 28)).alloc (.cells #[.slice ao' k cap', .slice aw' n capw', .bool en] 28) = W2 := ⟨_, rfl⟩
  have b2 : Below w.heap.size w W2 := by rw [← hW2]; exact ((Below.refl _ w).alloc (Nat.le_refl _) _).alloc (by simp) _
  have sz2 : W2.heap.size = w.heap.size + 2 := by rw [← hW2]; simp
  have R1 := hide (show W2.rowIs w.heap.size 28 3 (lrow [.slice ao k cap, .slice aw n capw, .bool en]) from by rw [← hW2]; exact (rowL_alloc w [.slice ao k cap, .slice aw n capw, .bool en] _ rfl).alloc _)
  have R2 := hide (show W2.rowIs (w.heap.size + 1) 28 3 (lrow [.slice ao' k cap', .slice aw' n capw', .bool en]) from by rw [← hW2]; have := rowL_alloc (w.alloc (.cells #[.slice ao k cap, .slice aw n capw, .bool en] 28)) [.slice ao' k cap', .slice aw' n capw', .bool en] 28 (n := 3) rfl; rwa [World.size_alloc] at this)
  have BW := hide b2
  have s1 : w.heap.size < W2.heap.size := by omega
  have s2 : w.heap.size + 1 < W2.heap.size := by omega
  have c0 : W2.cell? ⟨w.heap.size, 0, none⟩ = some (.slice ao k cap) := R1.out.cell (i := 0) (by omega)
  have c1 : W2.cell? ⟨w.heap.size, 1, none⟩ = some (.slice aw n capw) := R1.out.cell (i := 1) (by omega)
  have c2 : W2.cell? ⟨w.heap.size, 2, none⟩ = some (.bool en) := R1.out.cell (i := 2) (by omega)
  have d0 : W2.cell? ⟨w.heap.size + 1, 0, none⟩ = some (.slice ao' k cap') := R2.out.cell (i := 0) (by omega)
  have d1 : W2.cell? ⟨w.heap.size + 1, 1, none⟩ = some (.slice aw' n capw') := R2.out.cell (i := 1) (by omega)
  have d2 : W2.cell? ⟨w.heap.size + 1, 2, none⟩ = some (.bool en) := R2.out.cell (i := 2) (by omega)
  clear b2
  go_enter Try.func12, Try.ntmps12
  go_wp2_with (go_at_call 17; refine (same_words (HW.out.below BW.out (Nat.le_refl _)) (HW'.out.below BW.out (Nat.le_refl _)) (fun _ _ => rfl) (by omega)).mono ?_; rintro e w' ⟨rfl, m, hw'⟩; subst hw')
  go_loopw [5] (fun i wr => ∃ q : Nat, q ≤ k ∧ i = .int .i64 q ∧ Below W2.heap.size W2 wr) (fun i _ => k - (intOf i).toNat)
  case atStart => exact ⟨0, Nat.zero_le _, rfl, below_drewN (Below.refl _ _) _⟩
  case round =>
    obtain ⟨q, hq, rfl, hb⟩ := hrel
    have HB := hide hb
    have e0 := (hb.cell (p := ⟨w.heap.size, 0, none⟩) s1).trans c0
    have g0 := (hb.cell (p := ⟨w.heap.size + 1, 0, none⟩) s2).trans d0
    by_cases hlt : q < k
    · have hqk : (q : Int) < (k : Int) := by omega
      obtain ⟨b, off, hao, hbl, hc⟩ := HS.out q hlt
      obtain ⟨b', off', hao', hbl', hc'⟩ := HS'.out q hlt
      subst hao hao'
      have old : ∀ (x o : Nat), x < w.heap.size → wr.cell? ⟨x, o, none⟩ = w.cell? ⟨x, o, none⟩ := fun x o hx => (hb.cell (p := ⟨x, o, none⟩) (by show x < _; omega)).trans (BW.out.cell (p := ⟨x, o, none⟩) hx)
      have ST := hide (fun w' => same_step w' (s q))
      obtain ⟨sq, hsq⟩ : ∃ sq, s q = sq := ⟨_, rfl⟩
      rw [hsq] at hc hc' ST
      obtain ⟨v0, v1, v2, v3, v4, v5⟩ := sq
      have W0 : Below wr.heap.size wr wr.drew ∧ wr.cell? ⟨w.heap.size, 0, none⟩ = some (.slice (some ⟨b, off, none⟩) k cap) ∧ wr.cell? ⟨w.heap.size + 1, 0, none⟩ = some (.slice (some ⟨b', off', none⟩) k cap') ∧ wr.rangeAt b (off + q * 6) [.int .i64 v0, .int .i64 v1, .int .i64 v2, .int .u64 v3, .int .u64 v4, .bool v5] ∧ wr.rangeAt b' (off' + q * 6) [.int .i64 v0, .int .i64 v1, .int .i64 v2, .int .u64 v3, .int .u64 v4, .bool v5] := by
        refine ⟨(Below.refl _ _).drew, e0, g0, fun j v hv => ?_, fun j v hv => ?_⟩
        · have hj : j < 6 := (List.getElem?_eq_some_iff.1 hv).1
          rw [old _ _ hbl, hc j hj]
          match j, hj with
          | 0, _ | 1, _ | 2, _ | 3, _ | 4, _ | 5, _ => exact congrArg some (Option.some.inj hv)
        · have hj : j < 6 := (List.getElem?_eq_some_iff.1 hv).1
          rw [old _ _ hbl', hc' j hj]
          match j, hj with
          | 0, _ | 1, _ | 2, _ | 3, _ | 4, _ | 5, _ => exact congrArg some (Option.some.inj hv)
      have HW0 := hide W0
      obtain ⟨dS, hdS⟩ := row46
      have DS := hide hdS
      simp only [Stp.val] at ST
      have m1 : w.heap.size < wr.heap.size := by have := hb.size; omega
      have m2 : w.heap.size + 1 < wr.heap.size := by have := hb.size; omega
      have m3 : b < wr.heap.size := by omega
      have m4 : b' < wr.heap.size := by omega
      clear old hc hc' hb hsq W0 hdS c0 c1 c2 d0 d1 d2
      go_wp2_with fail
      go_cut [46] from 35 to 45 (fun s46 wx => s46 = .bool false ∧ Below wr.heap.size wr wx)
      case first =>
        rename_i K1 J1 hJ1 hK1
        refine Reg.region (t := (⟨[(0, 35), (1, 36), (2, 37), (3, 38), (4, 39), (5, 40), (6, 41), (7, 42), (8, 43), (9, 44), (11, 46)],
            fun i => match i with
              | 0 => .pointer (some ⟨w.heap.size, 0, none⟩)
              | 1 => .slice (some ⟨b, off, none⟩) k cap
              | 3 => .pointer (some ⟨b, off + q * 6, none⟩)
              | 4 => .agg #[.int .i64 v0, .int .i64 v1, .int .i64 v2, .int .u64 v3, .int .u64 v4, .bool v5]
              | 5 => .pointer (some ⟨w.heap.size + 1, 0, none⟩)
              | 6 => .slice (some ⟨b', off', none⟩) k cap'
              | 8 => .pointer (some ⟨b', off' + q * 6, none⟩)
              | 9 => .agg #[.int .i64 v0, .int .i64 v1, .int .i64 v2, .int .u64 v3, .int .u64 v4, .bool v5]
              | 11 => .bool false
              | _ => .int .i64 (q : Int),
            10, 45, .bool true, [], fun _ => (3, []), [], fun _ => []⟩ : Reg.TabL).tab)
          (WI := fun _ w' => Below wr.heap.size wr w' ∧ w'.cell? ⟨w.heap.size, 0, none⟩ = some (.slice (some ⟨b, off, none⟩) k cap) ∧ w'.cell? ⟨w.heap.size + 1, 0, none⟩ = some (.slice (some ⟨b', off', none⟩) k cap') ∧ w'.rangeAt b (off + q * 6) [.int .i64 v0, .int .i64 v1, .int .i64 v2, .int .u64 v3, .int .u64 v4, .bool v5] ∧ w'.rangeAt b' (off' + q * 6) [.int .i64 v0, .int .i64 v1, .int .i64 v2, .int .u64 v3, .int .u64 v4, .bool v5])
          (gw := w.heap.size + 1) (by kernel_rfl) (Reg.TabL.ok _ rfl (fun i j hm => by simp at hm)) ?g6 ?b6 m2 ?alo ?sto ?dd HW0.out ?kinds ?fin
        case g6 =>
          intro i o ho
          have hi : i < 12 := by have := (Array.getElem?_eq_some_iff.1 ho).1; simpa using this
          match i, hi with
          | 0, _ | 1, _ | 2, _ | 3, _ | 4, _ | 5, _ | 6, _ | 7, _ | 8, _ | 9, _ | 10, _ | 11, _ => injection ho with ho; subst ho; rfl
        case b6 =>
          intro i o ho
          have hi : i < 12 := by have := (Array.getElem?_eq_some_iff.1 ho).1; simpa using this
          match i, hi with
          | 0, _ | 1, _ | 2, _ | 3, _ | 4, _ | 5, _ | 6, _ | 7, _ | 8, _ | 9, _ | 10, _ | 11, _ => injection ho with ho; subst ho; simp [Region.binds]
        case alo =>
          rintro _ w' o ⟨h0, h1, h2, h3, h4⟩
          exact ⟨h0.alloc h0.size _, (World.cell?_alloc_lt _ _ _ (World.block_lt_of_cell? _ _ h1)).trans h1, (World.cell?_alloc_lt _ _ _ (World.block_lt_of_cell? _ _ h2)).trans h2, World.rangeAt_alloc h3 o, World.rangeAt_alloc h4 o⟩
        case sto =>
          rintro _ w' x vs ⟨h0, h1, h2, h3, h4⟩ hk
          have tt := touch_setCells x vs 0 w'
          exact ⟨h0.trans (tt.below (fun y hy => by omega) h0.size), (World.cell?_of_block (a := ⟨w.heap.size, 0, none⟩) (tt.block _ (World.block_lt_of_cell? _ _ h1) (by show w.heap.size ≠ x; omega))).trans h1, (World.cell?_of_block (a := ⟨w.heap.size + 1, 0, none⟩) (tt.block _ (World.block_lt_of_cell? _ _ h2) (by show w.heap.size + 1 ≠ x; omega))).trans h2, rangeAt_block h3 (tt.block _ (World.block_lt_of_cell? _ _ (h3 0 _ rfl)) (by show b ≠ x; omega)), rangeAt_block h4 (tt.block _ (World.block_lt_of_cell? _ _ (h4 0 _ rfl)) (by show b' ≠ x; omega))⟩
        case dd =>
          intro x hx
          have hx' : x < 47 := by
            simp [Reg.TabL.tab] at hx
            omega
          simpa using hx'
        case kinds =>
          have hWb : ∀ w1 w2 : World, (Below wr.heap.size wr w1 ∧ w1.cell? ⟨w.heap.size, 0, none⟩ = some (.slice (some ⟨b, off, none⟩) k cap) ∧ w1.cell? ⟨w.heap.size + 1, 0, none⟩ = some (.slice (some ⟨b', off', none⟩) k cap') ∧ w1.rangeAt b (off + q * 6) [.int .i64 v0, .int .i64 v1, .int .i64 v2, .int .u64 v3, .int .u64 v4, .bool v5] ∧ w1.rangeAt b' (off' + q * 6) [.int .i64 v0, .int .i64 v1, .int .i64 v2, .int .u64 v3, .int .u64 v4, .bool v5]) → Below w1.heap.size w1 w2 → (Below wr.heap.size wr w2 ∧ w2.cell? ⟨w.heap.size, 0, none⟩ = some (.slice (some ⟨b, off, none⟩) k cap) ∧ w2.cell? ⟨w.heap.size + 1, 0, none⟩ = some (.slice (some ⟨b', off', none⟩) k cap') ∧ w2.rangeAt b (off + q * 6) [.int .i64 v0, .int .i64 v1, .int .i64 v2, .int .u64 v3, .int .u64 v4, .bool v5] ∧ w2.rangeAt b' (off' + q * 6) [.int .i64 v0, .int .i64 v1, .int .i64 v2, .int .u64 v3, .int .u64 v4, .bool v5]) := by
            rintro w1 w2 ⟨h0, h1, h2, h3, h4⟩ hb
            exact ⟨h0.trans (hb.mono h0.size), (hb.cell (p := ⟨w.heap.size, 0, none⟩) (World.block_lt_of_cell? _ _ h1)).trans h1, (hb.cell (p := ⟨w.heap.size + 1, 0, none⟩) (World.block_lt_of_cell? _ _ h2)).trans h2, rangeAt_block h3 (hb.block _ (World.block_lt_of_cell? _ _ (h3 0 _ rfl))), rangeAt_block h4 (hb.block _ (World.block_lt_of_cell? _ _ (h4 0 _ rfl)))⟩
          intro i o ho
          have hi : i < 12 := by have := (Array.getElem?_eq_some_iff.1 ho).1; simpa using this
          match i, hi with
            | 0, _ => injection ho with ho; subst ho; exact .inl ⟨35, _, rfl, rfl, fun L a w' bk hI hd => ex_field rfl (hI.fix 2 (Reg.notD rfl)) (field28 w' _)⟩
            | 1, _ => injection ho with ho; subst ho; exact .inl ⟨36, _, rfl, rfl, fun L a w' bk hI hd => ex_load rfl (hI.pure 0 _ _ rfl (hd ⟨0, .data⟩ (by simp) rfl)) (agg26 w') hI.world.2.1⟩
            | 2, _ => injection ho with ho; subst ho; exact .inl ⟨37, _, rfl, rfl, fun L a w' bk hI hd => ex_move rfl (hI.fix 5 (Reg.notD rfl))⟩
            | 3, _ => injection ho with ho; subst ho; exact .inl ⟨38, _, rfl, rfl, fun L a w' bk hI hd => ex_index rfl (hI.pure 1 _ _ rfl (hd ⟨1, .data⟩ (by simp) rfl)) (hI.pure 2 _ _ rfl (hd ⟨2, .data⟩ (by simp) rfl)) hlt Try.underlying26 sz46⟩
            | 4, _ => injection ho with ho; subst ho; exact .inl ⟨39, _, rfl, rfl, fun L a w' bk hI hd => ex_load_row rfl (hI.pure 3 _ _ rfl (hd ⟨3, .data⟩ (by simp) rfl)) hI.world.2.2.2.1 DS.out.1 DS.out.2 sz46⟩
            | 5, _ => injection ho with ho; subst ho; exact .inl ⟨40, _, rfl, rfl, fun L a w' bk hI hd => ex_field rfl (hI.fix 3 (Reg.notD rfl)) (field28 w' _)⟩
            | 6, _ => injection ho with ho; subst ho; exact .inl ⟨41, _, rfl, rfl, fun L a w' bk hI hd => ex_load rfl (hI.pure 5 _ _ rfl (hd ⟨5, .data⟩ (by simp) rfl)) (agg26 w') hI.world.2.2.1⟩
            | 7, _ => injection ho with ho; subst ho; exact .inl ⟨42, _, rfl, rfl, fun L a w' bk hI hd => ex_move rfl (hI.fix 5 (Reg.notD rfl))⟩
            | 8, _ => injection ho with ho; subst ho; exact .inl ⟨43, _, rfl, rfl, fun L a w' bk hI hd => ex_index rfl (hI.pure 6 _ _ rfl (hd ⟨6, .data⟩ (by simp) rfl)) (hI.pure 7 _ _ rfl (hd ⟨7, .data⟩ (by simp) rfl)) hlt Try.underlying26 sz46⟩
            | 9, _ => injection ho with ho; subst ho; exact .inl ⟨44, _, rfl, rfl, fun L a w' bk hI hd => ex_load_row rfl (hI.pure 8 _ _ rfl (hd ⟨8, .data⟩ (by simp) rfl)) hI.world.2.2.2.2 DS.out.1 DS.out.2 sz46⟩
            | 10, _ => injection ho with ho; subst ho; exact .inr (.inl ⟨rfl, rfl, fun L a w' bk K hI hL hd hk => wp_call (f := 42) (call2 rfl (hI.pure 4 _ _ rfl (hd ⟨4, .data⟩ (by simp) rfl)) (hI.pure 9 _ _ rfl (hd ⟨9, .data⟩ (by simp) rfl)) rfl (callSame _ _)) ((ST.out w').mono (fun e w'' ⟨he, hb⟩ => ⟨_, he, hk w'' (hWb w' w'' hI.world hb) (Touch.of_below hb _)⟩))⟩)
            | 11, _ => injection ho with ho; subst ho; exact .inl ⟨46, _, rfl, rfl, fun L a w' bk hI hd => ex_not rfl (hI.call (hd ⟨10, .data⟩ (by simp) rfl))⟩
        case fin =>
          intro L a' w' bk hI hall
          refine hK1 _ _ (Met.intro (hJ1 _ _ ?_))
          have ea := act_all a' 47 (by rw [hI.sz]; rfl) hI.df
          simp only [List.range, List.range.loop, List.map] at ea
          rw [hI.fix 0 (Reg.notD rfl), hI.fix 1 (Reg.notD rfl), hI.fix 2 (Reg.notD rfl), hI.fix 3 (Reg.notD rfl), hI.fix 4 (Reg.notD rfl), hI.fix 5 (Reg.notD rfl), hI.fix 6 (Reg.notD rfl), hI.fix 7 (Reg.notD rfl), hI.fix 8 (Reg.notD rfl), hI.fix 9 (Reg.notD rfl), hI.fix 10 (Reg.notD rfl), hI.fix 11 (Reg.notD rfl), hI.fix 12 (Reg.notD rfl), hI.fix 13 (Reg.notD rfl), hI.fix 14 (Reg.notD rfl), hI.fix 15 (Reg.notD rfl), hI.fix 16 (Reg.notD rfl), hI.fix 17 (Reg.notD rfl), hI.fix 18 (Reg.notD rfl), hI.fix 19 (Reg.notD rfl), hI.fix 20 (Reg.notD rfl), hI.fix 21 (Reg.notD rfl), hI.fix 22 (Reg.notD rfl), hI.fix 23 (Reg.notD rfl), hI.fix 24 (Reg.notD rfl), hI.fix 25 (Reg.notD rfl), hI.fix 26 (Reg.notD rfl), hI.fix 27 (Reg.notD rfl), hI.fix 28 (Reg.notD rfl), hI.fix 29 (Reg.notD rfl), hI.fix 30 (Reg.notD rfl), hI.fix 31 (Reg.notD rfl), hI.fix 32 (Reg.notD rfl), hI.fix 33 (Reg.notD rfl), hI.fix 34 (Reg.notD rfl)] at ea
          have p46 := hI.pure 11 46 _ rfl (hall 11 (by decide))
          (repeat apply Exists.intro)
          refine ⟨?rel, ?eq⟩
          case eq => exact ea
          case rel => exact ⟨p46, hI.world.1⟩
      case rest =>
        obtain ⟨rfl, hbx⟩ := hcut
        go_wp2_with fail
        go_roundw
        case rel => exact ⟨q + 1, by omega, by go_num, HB.out.trans (hbx.mono HB.out.size)⟩
        case measure => simp [intOf]; omega
    · have hqk : ¬ (q : Int) < (k : Int) := by omega
      clear hb c0 c1 c2 d0 d1 d2
      go_wp2_with fail
      go_light
      refine bodyPost_ret (v := .bool true) ?_ rfl ⟨rfl, BW.out.trans (HB.out.mono (by omega))⟩
      simp [results, Try.results12, go_sem]
end Go.Proofs.Ytdbiphibdaghkaa
