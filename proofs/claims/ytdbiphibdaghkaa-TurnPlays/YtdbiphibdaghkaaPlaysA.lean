/-
  The reference's comparisons and errors; the statement's own walkers: start, step, wrong, ran where it refuses.
-/
import Derived.Test.YtdbiphibdaghkaaRActs
import Derived.Test.YtdbiphibdaghkaaAwake
import Derived.Test.YtdbiphibdaghkaaRStartA
import Derived.Test.YtdbiphibdaghkaaWalkers
import Derived.Test.YtdbiphibdaghkaaRStepA
import Derived.Test.YtdbiphibdaghkaaRExec
import Derived.Test.YtdbiphibdaghkaaRTab
/-
  The reference's comparisons: of steps, of traces.
-/
namespace Go.Proofs.Ytdbiphibdaghkaa
open Go.RowKit
set_option linter.unusedVariables false
set_option linter.unusedSimpArgs false
set_option linter.unnecessarySimpa false
set_option maxRecDepth 20000

set_option maxHeartbeats 4000000 in
theorem same_step (w : World) (s : Stp) :
    Calls Try.prog 42 #[s.val, s.val] w fun e w' => e = .returned (.bool true) ∧ Below w.heap.size w w' := by
  obtain ⟨a, b, c, d, e, f⟩ := s
  simp only [Stp.val]
  go_enter Try.func42, Try.ntmps42
  go_wp2_with fail
  go_light
  refine bodyPost_ret (v := .bool true) ?_ rfl ⟨rfl, ((Below.refl _ w).alloc (Nat.le_refl _) _).alloc (by simp) _⟩
  simp [results, Try.results42, go_sem]

theorem ex_not {ev : Operand → Value} {o : Oper} {w : World} {x : Operand} (ho : o.op = .unOp .not 4 x) (hx : ev x = .bool true) : (execOp ev o).run Try.prog w = .ok (.value (.bool false)) w := by
  simp [execOp, ho, hx, go_sem]
theorem field28 (w : World) (b : Nat) : (Instr.fieldAt 28 (.pointer (some ⟨b, 0, none⟩)) 0).run Try.prog w = .ok (.pointer (some ⟨b, 0, none⟩)) w := by simp [go_sem]
theorem agg26 (w : World) : (isAgg 26).run Try.prog w = .ok false w := by simp [go_sem]
theorem sz46 : (Try.prog.info? 46).map (·.size) = some 6 := by kernel_rfl
theorem callSame (args : Array Value) (w : World) : (callFunc 42 args).run Try.prog w = .ok (.enter 42 args) w := by
  simp [go_sem]

set_option maxHeartbeats 8000000 in
theorem same_trace {w : World} {ao ao' aw aw' : Option Addr} {k n cap cap' capw capw' : Nat} {s : Nat → Stp} {f : Nat → Int} {en : Bool} (hs : SeesS w w.heap.size ao k s) (hs' : SeesS w w.heap.size ao' k s) (hw : Sees w w.heap.size aw n f) (hw' : Sees w w.heap.size aw' n f) (hn : n ≤ 4096) (hk : k ≤ 65536) :
    Calls Try.prog 12 #[.agg #[.slice ao k cap, .slice aw n capw, .bool en], .agg #[.slice ao' k cap', .slice aw' n capw', .bool en]] w fun e w' => e = .returned (.bool true) ∧ Below w.heap.size w w' := by
  have HS := hide hs
  have HS' := hide hs'
  have HW := hide hw
  have HW' := hide hw'
  clear hs hs' hw hw'
  obtain ⟨W2, hW2⟩ : ∃ W2, (w.alloc (.cells #[.slice ao k cap, .slice aw n capw, .bool en] 28)).alloc (.cells #[.slice ao' k cap', .slice aw' n capw', .bool en] 28) = W2 := ⟨_, rfl⟩
  have b2 : Below w.heap.size w W2 := by rw [← hW2]; exact ((Below.refl _ w).alloc (Nat.le_refl _) _).alloc (by simp) _
  have sz2 : W2.heap.size = w.heap.size + 2 := by rw [← hW2]; simp
  have R1 := hide (show W2.rowIs w.heap.size 28 3 (lrow [.slice ao k cap, .slice aw n capw, .bool en]) from by rw [← hW2]; exact (rowL_alloc w [.slice ao k cap, .slice aw n capw, .bool en] _ rfl).alloc _)
  have R2 := hide (show W2.rowIs (w.heap.size + 1) 28 3 (lrow [.slice ao' k cap', .slice aw' n capw', .bool en]) from by rw [← hW2]; have := rowL_alloc (w.alloc (.cells #[.slice ao k cap, .slice aw n capw, .bool en] 28)) [.slice ao' k cap', .slice aw' n capw', .bool en] 28 (n := 3) rfl; rwa [World.size_alloc] at this)
  have BW := hide b2
  have s1 : w.heap.size < W2.heap.size := by omega
  have s2 : w.heap.size + 1 < W2.heap.size := by omega
  have c0 : W2.cell? ⟨w.heap.size, 0, none⟩ = some (.slice ao k cap) := R1.out.cell (i := 0) (by omega)
  have c1 : W2.cell? ⟨w.heap.size, 1, none⟩ = some (.slice aw n capw) := R1.out.cell (i := 1) (by omega)
  have c2 : W2.cell? ⟨w.heap.size, 2, none⟩ = some (.bool en) := R1.out.cell (i := 2) (by omega)
  have d0 : W2.cell? ⟨w.heap.size + 1, 0, none⟩ = some (.slice ao' k cap') := R2.out.cell (i := 0) (by omega)
  have d1 : W2.cell? ⟨w.heap.size + 1, 1, none⟩ = some (.slice aw' n capw') := R2.out.cell (i := 1) (by omega)
  have d2 : W2.cell? ⟨w.heap.size + 1, 2, none⟩ = some (.bool en) := R2.out.cell (i := 2) (by omega)
  clear b2
  go_enter Try.func12, Try.ntmps12
  go_wp2_with (go_at_call 17; refine (same_words (HW.out.below BW.out (Nat.le_refl _)) (HW'.out.below BW.out (Nat.le_refl _)) (fun _ _ => rfl) (by omega)).mono ?_; rintro e w' ⟨rfl, m, hw'⟩; subst hw')
  go_loopw [5] (fun i wr => ∃ q : Nat, q ≤ k ∧ i = .int .i64 q ∧ Below W2.heap.size W2 wr) (fun i _ => k - (intOf i).toNat)
  case atStart => exact ⟨0, Nat.zero_le _, rfl, below_drewN (Below.refl _ _) _⟩
  case round =>
    obtain ⟨q, hq, rfl, hb⟩ := hrel
    have HB := hide hb
    have e0 := (hb.cell (p := ⟨w.heap.size, 0, none⟩) s1).trans c0
    have g0 := (hb.cell (p := ⟨w.heap.size + 1, 0, none⟩) s2).trans d0
    by_cases hlt : q < k
    · have hqk : (q : Int) < (k : Int) := by omega
      obtain ⟨b, off, hao, hbl, hc⟩ := HS.out q hlt
      obtain ⟨b', off', hao', hbl', hc'⟩ := HS'.out q hlt
      subst hao hao'
      have old : ∀ (x o : Nat), x < w.heap.size → wr.cell? ⟨x, o, none⟩ = w.cell? ⟨x, o, none⟩ := fun x o hx => (hb.cell (p := ⟨x, o, none⟩) (by show x < _; omega)).trans (BW.out.cell (p := ⟨x, o, none⟩) hx)
      have ST := hide (fun w' => same_step w' (s q))
      obtain ⟨sq, hsq⟩ : ∃ sq, s q = sq := ⟨_, rfl⟩
      rw [hsq] at hc hc' ST
      obtain ⟨v0, v1, v2, v3, v4, v5⟩ := sq
      have W0 : Below wr.heap.size wr wr.drew ∧ wr.cell? ⟨w.heap.size, 0, none⟩ = some (.slice (some ⟨b, off, none⟩) k cap) ∧ wr.cell? ⟨w.heap.size + 1, 0, none⟩ = some (.slice (some ⟨b', off', none⟩) k cap') ∧ wr.rangeAt b (off + q * 6) [.int .i64 v0, .int .i64 v1, .int .i64 v2, .int .u64 v3, .int .u64 v4, .bool v5] ∧ wr.rangeAt b' (off' + q * 6) [.int .i64 v0, .int .i64 v1, .int .i64 v2, .int .u64 v3, .int .u64 v4, .bool v5] := by
        refine ⟨(Below.refl _ _).drew, e0, g0, fun j v hv => ?_, fun j v hv => ?_⟩
        · have hj : j < 6 := (List.getElem?_eq_some_iff.1 hv).1
          rw [old _ _ hbl, hc j hj]
          match j, hj with
          | 0, _ | 1, _ | 2, _ | 3, _ | 4, _ | 5, _ => exact congrArg some (Option.some.inj hv)
        · have hj : j < 6 := (List.getElem?_eq_some_iff.1 hv).1
          rw [old _ _ hbl', hc' j hj]
          match j, hj with
          | 0, _ | 1, _ | 2, _ | 3, _ | 4, _ | 5, _ => exact congrArg some (Option.some.inj hv)
      have HW0 := hide W0
      obtain ⟨dS, hdS⟩ := row46
      have DS := hide hdS
      simp only [Stp.val] at ST
      have m1 : w.heap.size < wr.heap.size := by have := hb.size; omega
      have m2 : w.heap.size + 1 < wr.heap.size := by have := hb.size; omega
      have m3 : b < wr.heap.size := by omega
      have m4 : b' < wr.heap.size := by omega
      clear old hc hc' hb hsq W0 hdS c0 c1 c2 d0 d1 d2
      go_wp2_with fail
      go_cut [46] from 35 to 45 (fun s46 wx => s46 = .bool false ∧ Below wr.heap.size wr wx)
      case first =>
        rename_i K1 J1 hJ1 hK1
        refine Reg.region (t := (⟨[(0, 35), (1, 36), (2, 37), (3, 38), (4, 39), (5, 40), (6, 41), (7, 42), (8, 43), (9, 44), (11, 46)],
            fun i => match i with
              | 0 => .pointer (some ⟨w.heap.size, 0, none⟩)
              | 1 => .slice (some ⟨b, off, none⟩) k cap
              | 3 => .pointer (some ⟨b, off + q * 6, none⟩)
              | 4 => .agg #[.int .i64 v0, .int .i64 v1, .int .i64 v2, .int .u64 v3, .int .u64 v4, .bool v5]
              | 5 => .pointer (some ⟨w.heap.size + 1, 0, none⟩)
              | 6 => .slice (some ⟨b', off', none⟩) k cap'
              | 8 => .pointer (some ⟨b', off' + q * 6, none⟩)
              | 9 => .agg #[.int .i64 v0, .int .i64 v1, .int .i64 v2, .int .u64 v3, .int .u64 v4, .bool v5]
              | 11 => .bool false
              | _ => .int .i64 (q : Int),
            10, 45, .bool true, [], fun _ => (3, []), [], fun _ => []⟩ : Reg.TabL).tab)
          (WI := fun _ w' => Below wr.heap.size wr w' ∧ w'.cell? ⟨w.heap.size, 0, none⟩ = some (.slice (some ⟨b, off, none⟩) k cap) ∧ w'.cell? ⟨w.heap.size + 1, 0, none⟩ = some (.slice (some ⟨b', off', none⟩) k cap') ∧ w'.rangeAt b (off + q * 6) [.int .i64 v0, .int .i64 v1, .int .i64 v2, .int .u64 v3, .int .u64 v4, .bool v5] ∧ w'.rangeAt b' (off' + q * 6) [.int .i64 v0, .int .i64 v1, .int .i64 v2, .int .u64 v3, .int .u64 v4, .bool v5])
          (gw := w.heap.size + 1) (by kernel_rfl) (Reg.TabL.ok _ rfl (fun i j hm => by simp at hm)) ?g6 ?b6 m2 ?alo ?sto ?dd HW0.out ?kinds ?fin
        case g6 =>
          intro i o ho
          have hi : i < 12 := by have := (Array.getElem?_eq_some_iff.1 ho).1; simpa using this
          match i, hi with
          | 0, _ | 1, _ | 2, _ | 3, _ | 4, _ | 5, _ | 6, _ | 7, _ | 8, _ | 9, _ | 10, _ | 11, _ => injection ho with ho; subst ho; rfl
        case b6 =>
          intro i o ho
          have hi : i < 12 := by have := (Array.getElem?_eq_some_iff.1 ho).1; simpa using this
          match i, hi with
          | 0, _ | 1, _ | 2, _ | 3, _ | 4, _ | 5, _ | 6, _ | 7, _ | 8, _ | 9, _ | 10, _ | 11, _ => injection ho with ho; subst ho; simp [Region.binds]
        case alo =>
          rintro _ w' o ⟨h0, h1, h2, h3, h4⟩
          exact ⟨h0.alloc h0.size _, (World.cell?_alloc_lt _ _ _ (World.block_lt_of_cell? _ _ h1)).trans h1, (World.cell?_alloc_lt _ _ _ (World.block_lt_of_cell? _ _ h2)).trans h2, World.rangeAt_alloc h3 o, World.rangeAt_alloc h4 o⟩
        case sto =>
          rintro _ w' x vs ⟨h0, h1, h2, h3, h4⟩ hk
          have tt := touch_setCells x vs 0 w'
          exact ⟨h0.trans (tt.below (fun y hy => by omega) h0.size), (World.cell?_of_block (a := ⟨w.heap.size, 0, none⟩) (tt.block _ (World.block_lt_of_cell? _ _ h1) (by show w.heap.size ≠ x; omega))).trans h1, (World.cell?_of_block (a := ⟨w.heap.size + 1, 0, none⟩) (tt.block _ (World.block_lt_of_cell? _ _ h2) (by show w.heap.size + 1 ≠ x; omega))).trans h2, rangeAt_block h3 (tt.block _ (World.block_lt_of_cell? _ _ (h3 0 _ rfl)) (by show b ≠ x; omega)), rangeAt_block h4 (tt.block _ (World.block_lt_of_cell? _ _ (h4 0 _ rfl)) (by show b' ≠ x; omega))⟩
        case dd =>
          intro x hx
          have hx' : x < 47 := by
            simp [Reg.TabL.tab] at hx
            omega
          simpa using hx'
        case kinds =>
          have hWb : ∀ w1 w2 : World, (Below wr.heap.size wr w1 ∧ w1.cell? ⟨w.heap.size, 0, none⟩ = some (.slice (some ⟨b, off, none⟩) k cap) ∧ w1.cell? ⟨w.heap.size + 1, 0, none⟩ = some (.slice (some ⟨b', off', none⟩) k cap') ∧ w1.rangeAt b (off + q * 6) [.int .i64 v0, .int .i64 v1, .int .i64 v2, .int .u64 v3, .int .u64 v4, .bool v5] ∧ w1.rangeAt b' (off' + q * 6) [.int .i64 v0, .int .i64 v1, .int .i64 v2, .int .u64 v3, .int .u64 v4, .bool v5]) → Below w1.heap.size w1 w2 → (Below wr.heap.size wr w2 ∧ w2.cell? ⟨w.heap.size, 0, none⟩ = some (.slice (some ⟨b, off, none⟩) k cap) ∧ w2.cell? ⟨w.heap.size + 1, 0, none⟩ = some (.slice (some ⟨b', off', none⟩) k cap') ∧ w2.rangeAt b (off + q * 6) [.int .i64 v0, .int .i64 v1, .int .i64 v2, .int .u64 v3, .int .u64 v4, .bool v5] ∧ w2.rangeAt b' (off' + q * 6) [.int .i64 v0, .int .i64 v1, .int .i64 v2, .int .u64 v3, .int .u64 v4, .bool v5]) := by
            rintro w1 w2 ⟨h0, h1, h2, h3, h4⟩ hb
            exact ⟨h0.trans (hb.mono h0.size), (hb.cell (p := ⟨w.heap.size, 0, none⟩) (World.block_lt_of_cell? _ _ h1)).trans h1, (hb.cell (p := ⟨w.heap.size + 1, 0, none⟩) (World.block_lt_of_cell? _ _ h2)).trans h2, rangeAt_block h3 (hb.block _ (World.block_lt_of_cell? _ _ (h3 0 _ rfl))), rangeAt_block h4 (hb.block _ (World.block_lt_of_cell? _ _ (h4 0 _ rfl)))⟩
          intro i o ho
          have hi : i < 12 := by have := (Array.getElem?_eq_some_iff.1 ho).1; simpa using this
          match i, hi with
            | 0, _ => injection ho with ho; subst ho; exact .inl ⟨35, _, rfl, rfl, fun L a w' bk hI hd => ex_field rfl (hI.fix 2 (Reg.notD rfl)) (field28 w' _)⟩
            | 1, _ => injection ho with ho; subst ho; exact .inl ⟨36, _, rfl, rfl, fun L a w' bk hI hd => ex_load rfl (hI.pure 0 _ _ rfl (hd ⟨0, .data⟩ (by simp) rfl)) (agg26 w') hI.world.2.1⟩
            | 2, _ => injection ho with ho; subst ho; exact .inl ⟨37, _, rfl, rfl, fun L a w' bk hI hd => ex_move rfl (hI.fix 5 (Reg.notD rfl))⟩
            | 3, _ => injection ho with ho; subst ho; exact .inl ⟨38, _, rfl, rfl, fun L a w' bk hI hd => ex_index rfl (hI.pure 1 _ _ rfl (hd ⟨1, .data⟩ (by simp) rfl)) (hI.pure 2 _ _ rfl (hd ⟨2, .data⟩ (by simp) rfl)) hlt Try.underlying26 sz46⟩
            | 4, _ => injection ho with ho; subst ho; exact .inl ⟨39, _, rfl, rfl, fun L a w' bk hI hd => ex_load_row rfl (hI.pure 3 _ _ rfl (hd ⟨3, .data⟩ (by simp) rfl)) hI.world.2.2.2.1 DS.out.1 DS.out.2 sz46⟩
            | 5, _ => injection ho with ho; subst ho; exact .inl ⟨40, _, rfl, rfl, fun L a w' bk hI hd => ex_field rfl (hI.fix 3 (Reg.notD rfl)) (field28 w' _)⟩
            | 6, _ => injection ho with ho; subst ho; exact .inl ⟨41, _, rfl, rfl, fun L a w' bk hI hd => ex_load rfl (hI.pure 5 _ _ rfl (hd ⟨5, .data⟩ (by simp) rfl)) (agg26 w') hI.world.2.2.1⟩
            | 7, _ => injection ho with ho; subst ho; exact .inl ⟨42, _, rfl, rfl, fun L a w' bk hI hd => ex_move rfl (hI.fix 5 (Reg.notD rfl))⟩
            | 8, _ => injection ho with ho; subst ho; exact .inl ⟨43, _, rfl, rfl, fun L a w' bk hI hd => ex_index rfl (hI.pure 6 _ _ rfl (hd ⟨6, .data⟩ (by simp) rfl)) (hI.pure 7 _ _ rfl (hd ⟨7, .data⟩ (by simp) rfl)) hlt Try.underlying26 sz46⟩
            | 9, _ => injection ho with ho; subst ho; exact .inl ⟨44, _, rfl, rfl, fun L a w' bk hI hd => ex_load_row rfl (hI.pure 8 _ _ rfl (hd ⟨8, .data⟩ (by simp) rfl)) hI.world.2.2.2.2 DS.out.1 DS.out.2 sz46⟩
            | 10, _ => injection ho with ho; subst ho; exact .inr (.inl ⟨rfl, rfl, fun L a w' bk K hI hL hd hk => wp_call (f := 42) (call2 rfl (hI.pure 4 _ _ rfl (hd ⟨4, .data⟩ (by simp) rfl)) (hI.pure 9 _ _ rfl (hd ⟨9, .data⟩ (by simp) rfl)) rfl (callSame _ _)) ((ST.out w').mono (fun e w'' ⟨he, hb⟩ => ⟨_, he, hk w'' (hWb w' w'' hI.world hb) (Touch.of_below hb _)⟩))⟩)
            | 11, _ => injection ho with ho; subst ho; exact .inl ⟨46, _, rfl, rfl, fun L a w' bk hI hd => ex_not rfl (hI.call (hd ⟨10, .data⟩ (by simp) rfl))⟩
        case fin =>
          intro L a' w' bk hI hall
          refine hK1 _ _ (Met.intro (hJ1 _ _ ?_))
          have ea := act_all a' 47 (by rw [hI.sz]; rfl) hI.df
          simp only [List.range, List.range.loop, List.map] at ea
          rw [hI.fix 0 (Reg.notD rfl), hI.fix 1 (Reg.notD rfl), hI.fix 2 (Reg.notD rfl), hI.fix 3 (Reg.notD rfl), hI.fix 4 (Reg.notD rfl), hI.fix 5 (Reg.notD rfl), hI.fix 6 (Reg.notD rfl), hI.fix 7 (Reg.notD rfl), hI.fix 8 (Reg.notD rfl), hI.fix 9 (Reg.notD rfl), hI.fix 10 (Reg.notD rfl), hI.fix 11 (Reg.notD rfl), hI.fix 12 (Reg.notD rfl), hI.fix 13 (Reg.notD rfl), hI.fix 14 (Reg.notD rfl), hI.fix 15 (Reg.notD rfl), hI.fix 16 (Reg.notD rfl), hI.fix 17 (Reg.notD rfl), hI.fix 18 (Reg.notD rfl), hI.fix 19 (Reg.notD rfl), hI.fix 20 (Reg.notD rfl), hI.fix 21 (Reg.notD rfl), hI.fix 22 (Reg.notD rfl), hI.fix 23 (Reg.notD rfl), hI.fix 24 (Reg.notD rfl), hI.fix 25 (Reg.notD rfl), hI.fix 26 (Reg.notD rfl), hI.fix 27 (Reg.notD rfl), hI.fix 28 (Reg.notD rfl), hI.fix 29 (Reg.notD rfl), hI.fix 30 (Reg.notD rfl), hI.fix 31 (Reg.notD rfl), hI.fix 32 (Reg.notD rfl), hI.fix 33 (Reg.notD rfl), hI.fix 34 (Reg.notD rfl)] at ea
          have p46 := hI.pure 11 46 _ rfl (hall 11 (by decide))
          (repeat apply Exists.intro)
          refine ⟨?rel, ?eq⟩
          case eq => exact ea
          case rel => exact ⟨p46, hI.world.1⟩
      case rest =>
        obtain ⟨rfl, hbx⟩ := hcut
        go_wp2_with fail
        go_roundw
        case rel => exact ⟨q + 1, by omega, by go_num, HB.out.trans (hbx.mono HB.out.size)⟩
        case measure => simp [intOf]; omega
    · have hqk : ¬ (q : Int) < (k : Int) := by omega
      clear hb c0 c1 c2 d0 d1 d2
      go_wp2_with fail
      go_light
      refine bodyPost_ret (v := .bool true) ?_ rfl ⟨rfl, BW.out.trans (HB.out.mono (by omega))⟩
      simp [results, Try.results12, go_sem]
end Go.Proofs.Ytdbiphibdaghkaa
/-
  The reference's Acts, where it refuses.
-/
namespace Go.Proofs.Ytdbiphibdaghkaa
open Go.RowKit
set_option linter.unusedVariables false
set_option linter.unusedSimpArgs false
set_option linter.unnecessarySimpa false
set_option maxRecDepth 20000

variable {w : World} {ao aoh aos : Option Addr} {cap caph caps : Nat} {P : Par} {most : Int}

set_option maxHeartbeats 4000000 in
theorem racts_words (hn : 4096 < P.n) (hn63 : P.n ≤ 9223372036854775807) :
    Calls Try.prog 10 #[.slice ao P.n cap, .slice aoh P.nh caph, .slice aos P.ns caps, .int .i64 most] w fun e w' => e = .returned (errVal 1) ∧ Below w.heap.size w w' := by
  have hn' : (4096 : Int) < (P.n : Int) := by omega
  unfold errVal
  go_enter Try.func10, Try.ntmps10
  go_wp2_with fail
  go_light
  refine bodyPost_ret (v := errVal 1) ?_ rfl ⟨rfl, (Below.refl _ w).alloc (Nat.le_refl _) _⟩
  simp [results, Try.results10, go_sem, errVal]

set_option maxHeartbeats 4000000 in
theorem racts_fits (hn : P.n ≤ 4096) (er : Int) (her : er ≠ 0) (h : ∀ w' : World, Below w.heap.size w w' → Calls Try.prog 33 #[.slice aoh P.nh caph, .slice aos P.ns caps, .int .i64 most] w' fun e w'' => e = .returned (.int .i64 er) ∧ w'' = w') :
    Calls Try.prog 10 #[.slice ao P.n cap, .slice aoh P.nh caph, .slice aos P.ns caps, .int .i64 most] w fun e w' => e = .returned (errVal er) ∧ Below w.heap.size w w' := by
  have hn' : ¬ (4096 : Int) < (P.n : Int) := by omega
  have her' : ¬ er = 0 := her
  have HH := hide (h _ ((Below.refl _ w).alloc (Nat.le_refl _) (.cells #[.slice none 0 0, .slice none 0 0, .bool false] 28)))
  clear h
  clear her
  go_enter Try.func10, Try.ntmps10
  go_wp2_with (go_at_call 33; refine HH.out.mono ?_; rintro e w' ⟨rfl, hw⟩; obtain rfl := hw.symm)
  go_loopw [11, 12] (fun e i wr => ∃ k : Nat, k ≤ P.nh ∧ e = .int .i64 er ∧ i = .int .i64 k ∧ wr = (w.alloc (.cells #[.slice none 0 0, .slice none 0 0, .bool false] 28))) (fun _ _ _ => 0)
  case atStart => exact ⟨0, Nat.zero_le _, rfl, rfl, rfl⟩
  case round =>
    obtain ⟨k, hk, rfl, rfl, rfl⟩ := hrel
    by_cases hlt : k < P.nh
    · have hkn : (k : Int) < (P.nh : Int) := by omega
      go_wp2_with fail
      go_light
      refine bodyPost_ret (v := errVal er) ?_ rfl ⟨rfl, (Below.refl _ w).alloc (Nat.le_refl _) _⟩
      simp [results, Try.results10, go_sem, errVal]
    · have hkn : ¬ (k : Int) < (P.nh : Int) := by omega
      go_wp2_with fail
      go_light
      refine bodyPost_ret (v := errVal er) ?_ rfl ⟨rfl, (Below.refl _ w).alloc (Nat.le_refl _) _⟩
      simp [results, Try.results10, go_sem, errVal]

set_option maxHeartbeats 8000000 in
theorem racts_first (hn : P.n ≤ 4096) (SH : SeesH w w.heap.size aoh P.nh P.jn P.jb) (hl : ¬ LongHands P.nh P.jn) (hs : P.ns ≤ 65536) (hm0 : 0 ≤ most) (hm : most ≤ 65536) {er : Int} (he : FirstErr kAct P er) :
    Calls Try.prog 10 #[.slice ao P.n cap, .slice aoh P.nh caph, .slice aos P.ns caps, .int .i64 most] w fun e w' => e = .returned (errVal er) ∧ Below w.heap.size w w' := by
  obtain ⟨H, J, hH, hJ, hE, her, hb1, hb2⟩ := he
  have hnh : P.nh ≤ 8 := by rcases Nat.lt_or_ge 8 P.nh with l | l; exact absurd (.inl l) hl; exact l
  have hjn : ∀ i, i < P.nh → P.jn i ≤ 256 := fun i hi => by rcases Nat.lt_or_ge 256 (P.jn i) with l | l; exact absurd (.inr ⟨i, hi, l⟩) hl; exact l
  have hn' : ¬ (4096 : Int) < (P.n : Int) := by omega
  have her' : ¬ er = 0 := her
  have HE := hide hE
  have HB1 := hide hb1
  have HB2 := hide hb2
  have HSH := hide SH
  have HL := hide hl
  have HJN := hide hjn
  obtain ⟨W1, hW1⟩ : ∃ W1, w.alloc (.cells #[.slice none 0 0, .slice none 0 0, .bool false] 28) = W1 := ⟨_, rfl⟩
  have b1 : Below w.heap.size w W1 := by rw [← hW1]; exact (Below.refl _ w).alloc (Nat.le_refl _) _
  have sz1 : W1.heap.size = w.heap.size + 1 := by rw [← hW1]; simp
  have R1 := hide (show W1.rowIs w.heap.size 28 3 (lrow [.slice none 0 0, .slice none 0 0, .bool false]) from by rw [← hW1]; exact rowL_alloc w [.slice none 0 0, .slice none 0 0, .bool false] _ rfl)
  have BW := hide b1
  clear SH hl hjn hE hb1 hb2 b1
  go_enter Try.func10, Try.ntmps10
  go_wp2_with (go_at_call 33; refine (fits_fine (HSH.out.below BW.out (Nat.le_refl _)) HL.out hs most hm 0 (.inl ⟨hm0, rfl⟩)).mono ?_; rintro e w' ⟨rfl, hw⟩; obtain rfl := hw.symm)
  go_loopw [11, 12] (fun e i wr => ∃ k : Nat, k ≤ P.nh ∧ i = .int .i64 k ∧ Below W1.heap.size W1 wr ∧ ((e = .int .i64 0 ∧ k ≤ H) ∨ e = .int .i64 er)) (fun _ i _ => P.nh - (intOf i).toNat)
  case atStart => exact ⟨0, Nat.zero_le _, rfl, Below.refl _ _, .inl ⟨rfl, Nat.zero_le _⟩⟩
  case round =>
    obtain ⟨wo, rfl⟩ : ∃ x, x = wr := ⟨_, rfl⟩
    obtain ⟨k, hk, rfl, hb, hcase⟩ := hrel
    have HB := hide hb
    clear hb
    rcases hcase with ⟨rfl, hkH⟩ | rfl
    · have hlt : k < P.nh := by omega
      have hkn : (k : Int) < (P.nh : Int) := by omega
      obtain ⟨b, off, ao', cap', hao, hbl, hcc, hjj⟩ := (HSH.out.below (BW.out.trans (HB.out.mono (by omega))) (Nat.le_refl _)) k hlt
      subst hao
      have hjk := HJN.out k hlt
      have HJJ := hide hjj
      go_wp2_with fail
      go_loopw [11, 13] (fun e i wr => ∃ q : Nat, q ≤ P.jn k ∧ i = .int .i64 q ∧ Below W1.heap.size W1 wr ∧ ((e = .int .i64 0 ∧ (k = H → q ≤ J)) ∨ e = .int .i64 er)) (fun _ i _ => P.jn k - (intOf i).toNat)
      case atStart => exact ⟨0, Nat.zero_le _, rfl, HB.out, .inl ⟨rfl, fun _ => Nat.zero_le _⟩⟩
      case round =>
        obtain ⟨q, hq, rfl, hb2, hcase2⟩ := hrel
        have HB2' := hide hb2
        have hccr := (hb2.cell (p := ⟨b, off + k, none⟩) (by show b < _; omega)).trans ((HB.out.cell (p := ⟨b, off + k, none⟩) (by show b < _; omega)).symm.trans hcc)
        rcases hcase2 with ⟨rfl, hqJ⟩ | rfl
        · by_cases hlq : q < P.jn k
          · have hqn : (q : Int) < (P.jn k : Int) := by omega
            obtain ⟨b', off', hao', hbl', hc'⟩ := HJJ.out q hlq
            subst hao'
            have old : ∀ o, wo.cell? ⟨b', o, none⟩ = wr.cell? ⟨b', o, none⟩ := fun o => (HB.out.cell (p := ⟨b', o, none⟩) (by show b' < _; omega)).trans (hb2.cell (p := ⟨b', o, none⟩) (by show b' < _; omega)).symm
            have p0 := (old _).symm.trans (hc' 0 (by omega))
            have p1 := (old _).symm.trans (hc' 1 (by omega))
            have p2 := (old _).symm.trans (hc' 2 (by omega))
            have p3 := (old _).symm.trans (hc' 3 (by omega))
            have p4 := (old _).symm.trans (hc' 4 (by omega))
            simp only [Nat.add_zero, Jb.cell] at p0 p1 p2 p3 p4
            by_cases hhit : k = H ∧ q = J
            · obtain ⟨hk1, hq1⟩ := hhit
              have ST := hide (startA_err wr .zero k (P.jb k q) (by rw [hk1, hq1, HE.out]; exact her))
              rw [show kAct.err (P.jb k q) = er from by rw [hk1, hq1]; exact HE.out] at ST
              obtain ⟨jb, hjb⟩ : ∃ jb, P.jb k q = jb := ⟨_, rfl⟩
              rw [hjb] at p0 p1 p2 p3 p4 ST
              obtain ⟨jk, ja, jbb, jc, jh⟩ := jb
              simp only [Shp.val, Shp.zero, Jb.val, kept0] at ST
              simp only at p0 p1 p2 p3 p4
              clear old hc' hb2 hjb hk1 hq1
              go_wp2_with (go_at_call 34; refine ST.out.mono ?_; rintro e w3 ⟨rfl, hb3⟩)
              go_roundw
              case rel => exact ⟨q + 1, by omega, by go_num, HB2'.out.trans (hb3.mono HB2'.out.size), .inr rfl⟩
              case measure => simp [intOf]; omega
            · have hok : kAct.err (P.jb k q) = 0 := by
                by_cases hk1 : k = H
                · subst hk1; exact HB2.out q (by have := hqJ rfl; rcases Nat.lt_or_ge q J with l | l; exact l; exact absurd ⟨rfl, by omega⟩ hhit)
                · exact HB1.out k (by omega) q hlq
              have ST := hide (startA_ok wr .zero k (P.jb k q) hok)
              obtain ⟨jb, hjb⟩ : ∃ jb, P.jb k q = jb := ⟨_, rfl⟩
              rw [hjb] at p0 p1 p2 p3 p4 ST
              obtain ⟨jk, ja, jbb, jc, jh⟩ := jb
              simp only [Shp.val, Shp.zero, Jb.val, kept0] at ST
              simp only at p0 p1 p2 p3 p4
              clear old hc' hb2 hjb hok
              go_wp2_with (go_at_call 34; refine ST.out.mono ?_; rintro e w3 ⟨rfl, hb3⟩)
              go_roundw
              case rel => exact ⟨q + 1, by omega, by go_num, HB2'.out.trans (hb3.mono HB2'.out.size), .inl ⟨rfl, fun hk1 => by have := hqJ hk1; rcases Nat.lt_or_ge q J with l | l; omega; exact absurd ⟨hk1, by omega⟩ hhit⟩⟩
              case measure => simp [intOf]; omega
          · obtain rfl : q = P.jn k := by omega
            have hkH' : k ≠ H := fun hk1 => by have := hqJ hk1; rw [hk1] at this; omega
            go_wp2_with fail
            go_roundw
            case rel => exact ⟨k + 1, by omega, by go_num, HB2'.out, .inl ⟨rfl, by omega⟩⟩
            case measure => simp [intOf]; omega
        · by_cases hlq : q < P.jn k
          · have hqn : (q : Int) < (P.jn k : Int) := by omega
            go_wp2_with fail
            go_roundw
            case rel => exact ⟨k + 1, by omega, by go_num, HB2'.out, .inr rfl⟩
            case measure => simp [intOf]; omega
          · have hqn : ¬ (q : Int) < (P.jn k : Int) := by omega
            go_wp2_with fail
            go_roundw
            case rel => exact ⟨k + 1, by omega, by go_num, HB2'.out, .inr rfl⟩
            case measure => simp [intOf]; omega
    · have hb := HB.out
      have rT := R1.out.of_block (hb.block _ (by omega))
      have z0 : wo.cell? ⟨w.heap.size, 0, none⟩ = some (.slice none 0 0) := rT.cell (i := 0) (by omega)
      have z1 : wo.cell? ⟨w.heap.size, 1, none⟩ = some (.slice none 0 0) := rT.cell (i := 1) (by omega)
      have z2 : wo.cell? ⟨w.heap.size, 2, none⟩ = some (.bool false) := rT.cell (i := 2) (by omega)
      have y0 := rT.frozen 0
      have y1 := rT.frozen 1
      have y2 := rT.frozen 2
      have bb := BW.out.trans (hb.mono (by omega))
      have HBB := hide bb
      clear hb rT bb
      by_cases hlt : k < P.nh
      · have hkn : (k : Int) < (P.nh : Int) := by omega
        go_wp2_with fail
        go_light
        refine bodyPost_ret (v := errVal er) ?_ rfl ⟨rfl, ((HBB.out.setCell (Nat.le_refl _) _).setCell (Nat.le_refl _) _).setCell (Nat.le_refl _) _⟩
        simp [results, Try.results10, go_sem, errVal, *]
      · have hkn : ¬ (k : Int) < (P.nh : Int) := by omega
        go_wp2_with fail
        go_light
        refine bodyPost_ret (v := errVal er) ?_ rfl ⟨rfl, ((HBB.out.setCell (Nat.le_refl _) _).setCell (Nat.le_refl _) _).setCell (Nat.le_refl _) _⟩
        simp [results, Try.results10, go_sem, errVal, *]
end Go.Proofs.Ytdbiphibdaghkaa
/-
  The reference's comparison of answers; a told run as it is seen.
-/
namespace Go.Proofs.Ytdbiphibdaghkaa
open Go.RowKit OfActs
set_option linter.unusedVariables false
set_option linter.unusedSimpArgs false
set_option linter.unnecessarySimpa false
set_option maxRecDepth 20000

/-- Answers as they are seen: hand h's slice, its answers. -/
def SeesA (w : World) (B : Nat) (ao : Option Addr) (nh : Nat) (dn : Nat → Nat) (an : Nat → Nat → Ans) : Prop :=
  ∀ h, h < nh → ∃ b off av cap, ao = some ⟨b, off, none⟩ ∧ b < B ∧ w.cell? ⟨b, off + h, none⟩ = some (.slice av (dn h) cap) ∧ ∀ j, j < dn h → ∃ b' off', av = some ⟨b', off', none⟩ ∧ b' < B ∧ ∀ i, i < 2 → w.cell? ⟨b', off' + j * 2 + i, none⟩ = some (OfActs.Ans.cell (an h j) i)

theorem SeesA.below {w w' : World} {B C : Nat} {ao : Option Addr} {nh : Nat} {dn : Nat → Nat} {an : Nat → Nat → Ans} (S : SeesA w B ao nh dn an) (hb : Below C w w') (hBC : B ≤ C) : SeesA w' B ao nh dn an := fun h hh => by
  obtain ⟨b, off, av, cap, e, hl, hc, hj⟩ := S h hh
  refine ⟨b, off, av, cap, e, hl, (hb.cell (p := ⟨b, off + h, none⟩) (by show b < C; omega)).trans hc, fun j hjj => ?_⟩
  obtain ⟨b', off', e', hl', hc'⟩ := hj j hjj
  exact ⟨b', off', e', hl', fun i hi => (hb.cell (p := ⟨b', off' + j * 2 + i, none⟩) (by show b' < C; omega)).trans (hc' i hi)⟩
theorem SeesA.mono {w : World} {B C : Nat} {ao : Option Addr} {nh : Nat} {dn : Nat → Nat} {an : Nat → Nat → Ans} (S : SeesA w B ao nh dn an) (hBC : B ≤ C) : SeesA w C ao nh dn an := fun h hh => by
  obtain ⟨b, off, av, cap, e, hl, hc, hj⟩ := S h hh
  exact ⟨b, off, av, cap, e, by omega, hc, fun j hjj => by obtain ⟨b', off', e', hl', hc'⟩ := hj j hjj; exact ⟨b', off', e', by omega, hc'⟩⟩

set_option maxHeartbeats 8000000 in
theorem same_answers {w : World} {B : Nat} {ao ao' : Option Addr} {nh cap cap' : Nat} {dn : Nat → Nat} {an : Nat → Nat → Ans} (hs : SeesA w B ao nh dn an) (hs' : SeesA w B ao' nh dn an) (hn : nh ≤ 8) (hd : ∀ h, h < nh → dn h ≤ 256) :
    Calls Try.prog 13 #[.slice ao nh cap, .slice ao' nh cap'] w fun e w' => e = .returned (.bool true) ∧ ∃ m, w' = w.drewN m := by
  have H := hide hs
  have H' := hide hs'
  have HD := hide hd
  clear hs hs' hd
  go_enter Try.func13, Try.ntmps13
  go_wp2_with fail
  go_loopw [5] (fun i wr => ∃ k m : Nat, k ≤ nh ∧ i = .int .i64 k ∧ wr = w.drewN m) (fun i _ => nh - (intOf i).toNat)
  case atStart => exact ⟨0, 0, Nat.zero_le _, rfl, rfl⟩
  case round =>
    obtain ⟨k, m, hk, rfl, rfl⟩ := hrel
    by_cases hlt : k < nh
    · obtain ⟨b, off, av, cv, rfl, hbl, hcc, hj⟩ := H.out k hlt
      obtain ⟨b', off', av', cv', rfl, hbl', hcc', hj'⟩ := H'.out k hlt
      have hkn : (k : Int) < (nh : Int) := by omega
      have hdk := HD.out k hlt
      have HJ := hide hj
      have HJ' := hide hj'
      clear hj hj'
      obtain ⟨dk, hdk'⟩ : ∃ dk, dn k = dk := ⟨_, rfl⟩
      rw [hdk'] at hcc hcc' hdk HJ HJ'
      obtain ⟨ak, hak'⟩ : ∃ ak, an k = ak := ⟨_, rfl⟩
      rw [hak'] at HJ HJ'
      clear hdk' hak'
      go_wp2_with fail
      go_quiet (fail)
      go_wp2_with fail
      go_loopw [6] (fun i wr => ∃ q m : Nat, q ≤ dk ∧ i = .int .i64 q ∧ wr = w.drewN m) (fun i _ => dk - (intOf i).toNat)
      case atStart => exact ⟨0, _, Nat.zero_le _, rfl, World.drewN_drewN ..⟩
      case round =>
        obtain ⟨q, m', hq, rfl, rfl⟩ := hrel
        by_cases hlq : q < dk
        · obtain ⟨bj, oj, rfl, hlj, hcj⟩ := HJ.out q hlq
          obtain ⟨bj', oj', rfl, hlj', hcj'⟩ := HJ'.out q hlq
          have hqn : (q : Int) < (dk : Int) := by omega
          have p0 := hcj 0 (by omega)
          have p1 := hcj 1 (by omega)
          have r0 := hcj' 0 (by omega)
          have r1 := hcj' 1 (by omega)
          simp only [OfActs.Ans.cell, Nat.add_zero] at p0 p1 r0 r1
          clear hcj hcj'
          go_wp2_with fail
          go_quiet (fail)
          go_wp2_with fail
          go_roundw
          case rel => exact ⟨q + 1, _, by omega, by go_num, rfl⟩
          case measure => simp [intOf]; omega
        · have hqn : ¬ (q : Int) < (dk : Int) := by omega
          go_wp2_with fail
          go_roundw
          case rel => exact ⟨k + 1, _, by omega, by go_num, rfl⟩
          case measure => simp [intOf]; omega
    · have hkn : ¬ (k : Int) < (nh : Int) := by omega
      go_wp2_with fail
      go_ret
      exact ⟨rfl, _, rfl⟩

/-- A grown slice of steps, as it is seen. -/
theorem Grows.seesS {blk : Rl → Nat} {c : Rl → Option Row} {k : Nat} {s : Nat → Stp} {w : World} {base : Nat} {sa : Option Addr} {sc : Nat} (h : Grows blk c .steps 46 6 k (stepCells s k) (.slice sa k sc)) (H : Has w base blk c) : SeesS w w.heap.size sa k s := fun j hj => by
  obtain ⟨b, cap, e, hl, _, hc⟩ := grows_cell h H (stepCells_length _ _) (by omega)
  injection e with e1 _ _
  refine ⟨b, 0, e1, hl, fun i hi => ?_⟩
  rw [Nat.zero_add]
  exact hc _ _ (stepCells_get s k j i hj hi)
/-- The answers, as they are seen. -/
theorem seesA_of {blk : Rl → Nat} {c : Rl → Option Row} {K : Kd} {st : St K} {P : Par} {w : World} {base : Nat} (h : ∃ A, c .answers = some ⟨47, P.nh, A⟩ ∧ ∀ h, h < P.nh → Grows blk c (.arow h) 49 2 (st.done h) (ansCells (st.ans h) (st.done h)) (A h)) (H : Has w base blk c) :
    SeesA w w.heap.size (some ⟨blk .answers, 0, none⟩) P.nh st.done st.ans := fun h' hh => by
  obtain ⟨A, eA, hA⟩ := h
  obtain ⟨av, cv, ev⟩ := (hA h' hh).isSlice
  refine ⟨_, 0, av, cv, rfl, H.lt eA, ?_, fun j hj => ?_⟩
  · rw [Nat.zero_add, ← ev]; exact H.cell eA (i := h') hh
  · obtain ⟨b, cap, e, hl, _, hc⟩ := grows_cell (hA h' hh) H (ansCells_length _ _) (by omega)
    rw [ev] at e
    injection e with e1 _ _
    refine ⟨b, 0, e1, hl, fun i hi => ?_⟩
    rw [Nat.zero_add]
    exact hc _ _ (ansCells_get (st.ans h') (st.done h') j i hj hi)
theorem RGood.seesW {K : Kd} {rep : List Value → K.σ → Prop} {P : Par} {blk : Rl → Nat} {c : Rl → Option Row} {st : St K} {un : Nat → Bool} {capw : Nat} {sv : Value} {w : World} {base : Nat} (G : RGood K rep P blk c st un capw sv) (H : Has w base blk c) : Sees w w.heap.size (some ⟨blk .words, 0, none⟩) P.n st.f := fun j hj => by
  obtain ⟨F, e, h1, _, h2⟩ := G.words
  refine ⟨_, 0, rfl, H.lt e, ?_⟩
  rw [Nat.zero_add, H.cell e (i := j) (by show j < capw; omega)]
  exact congrArg some (h2 j hj)

theorem first_not (p : Nat → Prop) : ∀ n, (∀ i, i < n → p i) ∨ ∃ i, i < n ∧ ¬ p i ∧ ∀ j, j < i → p j
  | 0 => .inl (fun i hi => absurd hi (Nat.not_lt_zero i))
  | n + 1 => by
    rcases first_not p n with h | ⟨i, hi, h1, h2⟩
    · by_cases hp : p n
      · exact .inl (fun i hi => by rcases Nat.lt_or_ge i n with l | l; exact h i l; obtain rfl : i = n := (by omega); exact hp)
      · exact .inr ⟨n, by omega, hp, h⟩
    · exact .inr ⟨i, by omega, h1, h2⟩
theorem allOk_or (K : Kd) (P : Par) : AllOk K P ∨ ∃ e, FirstErr K P e := by
  rcases first_not (fun h => ∀ j, j < P.jn h → K.err (P.jb h j) = 0) P.nh with h | ⟨H, hH, h1, h2⟩
  · exact .inl h
  · rcases first_not (fun j => K.err (P.jb H j) = 0) (P.jn H) with h | ⟨J, hJ, h3, h4⟩
    · exact absurd h h1
    · exact .inr ⟨_, H, J, hH, hJ, rfl, h3, h2, h4⟩
theorem ErrOf.one {K : Kd} {P : Par} {most e e' : Int} (h : ErrOf K P most e) (h' : ErrOf K P most e') : e = e' := by
  have neg : ¬ (LongHands P.nh P.jn ∨ 65536 < P.ns ∨ 65536 < most) ∨ (LongHands P.nh P.jn ∨ 65536 < P.ns ∨ 65536 < most) := (Classical.em _).symm
  rcases h with ⟨a1, rfl⟩ | ⟨a1, a2, rfl⟩ | ⟨a1, a2, a3, a4, rfl⟩ | ⟨⟨a1, a2, a3, a4, a5⟩, a6⟩ <;> rcases h' with ⟨b1, rfl⟩ | ⟨b1, b2, rfl⟩ | ⟨b1, b2, b3, b4, rfl⟩ | ⟨⟨b1, b2, b3, b4, b5⟩, b6⟩
  all_goals first
    | rfl
    | (exfalso; omega)
    | (exfalso; rcases a2 with a2 | a2 | a2; exact b2 a2; omega; omega)
    | (exfalso; rcases b2 with b2 | b2 | b2; exact a2 b2; omega; omega)
    | exact a6.one b6
theorem ErrOf.not {K : Kd} {P : Par} {most e : Int} (h : ErrOf K P most e) : ¬ (Fine P most ∧ AllOk K P) := by
  rintro ⟨⟨b1, b2, b3, b4, b5⟩, b6⟩
  rcases h with ⟨a1, _⟩ | ⟨a1, a2, _⟩ | ⟨a1, a2, a3, a4, _⟩ | ⟨_, a6⟩
  · omega
  · rcases a2 with a2 | a2 | a2
    · exact b2 a2
    · omega
    · omega
  · omega
  · exact a6.not b6

/-- Acts of the reference, whatever it is given. -/
def RAllB (w : World) (P : Par) (f : Nat → Int) (most : Int) (e : Ending) (w' : World) : Prop :=
  Below w.heap.size w w' ∧ ((∃ er, ErrOf kAct P most er ∧ e = .returned (errVal er)) ∨ (Fine P most ∧ AllOk kAct P ∧ ∃ v, e = .returned v ∧ RTold kAct repA P (runSt P (st0 kAct P f) most.toNat) w.heap.size v w'))

theorem racts_all {w : World} {ao aoh aos : Option Addr} {cap caph caps : Nat} {P : Par} {f : Nat → Int} {most : Int} (S : Sees w w.heap.size ao P.n f) (hnil : ao = none → P.n = 0 ∧ cap = 0) (hn : P.n ≤ 9223372036854775807) (hf : ∀ i, i < P.n → 0 ≤ f i ∧ f i ≤ 18446744073709551615) (SH : SeesH w w.heap.size aoh P.nh P.jn P.jb) (hn63 : P.nh ≤ 9223372036854775807) (SI : SeesI w w.heap.size aos P.ns P.sched) (hjw : ∀ h, h < P.nh → ∀ j, j < P.jn h → (P.jb h j).wf) :
    Calls Try.prog 10 #[.slice ao P.n cap, .slice aoh P.nh caph, .slice aos P.ns caps, .int .i64 most] w (RAllB w P f most) := by
  by_cases h1 : 4096 < P.n
  · exact (racts_words h1 hn).mono fun e w' ⟨he, hb⟩ => ⟨hb, .inl ⟨1, .inl ⟨h1, rfl⟩, he⟩⟩
  · by_cases h2 : LongHands P.nh P.jn ∨ 65536 < P.ns ∨ 65536 < most
    · exact (racts_fits (by omega) 1 (by decide) (fun w' hb => fits_long (SH.below hb (Nat.le_refl _)) hn63 most h2)).mono fun e w' ⟨he, hb⟩ => ⟨hb, .inl ⟨1, .inr (.inl ⟨by omega, h2, rfl⟩), he⟩⟩
    · have hl : ¬ LongHands P.nh P.jn := fun h => h2 (.inl h)
      have hs : P.ns ≤ 65536 := by rcases Nat.lt_or_ge 65536 P.ns with l | l; exact absurd (.inr (.inl l)) h2; exact l
      have hm : most ≤ 65536 := by rcases Int.lt_or_le 65536 most with l | l; exact absurd (.inr (.inr l)) h2; exact l
      by_cases h3 : most < 0
      · exact (racts_fits (by omega) 2 (by decide) (fun w' hb => fits_fine (SH.below hb (Nat.le_refl _)) hl hs most hm 2 (.inr ⟨h3, rfl⟩))).mono fun e w' ⟨he, hb⟩ => ⟨hb, .inl ⟨2, .inr (.inr (.inl ⟨by omega, hl, hs, h3, rfl⟩)), he⟩⟩
      · have hF : Fine P most := ⟨by omega, hl, hs, by omega, hm⟩
        rcases allOk_or kAct P with hok | ⟨er, he⟩
        · obtain ⟨m, rfl⟩ : ∃ m : Nat, most = m := ⟨most.toNat, by omega⟩
          exact (racts_run S hnil hf (by omega) SH hl SI hs (by omega) hjw hok).mono fun e w' ⟨hb, v, he, ht⟩ => ⟨hb, .inr ⟨hF, hok, v, he, by simpa using ht⟩⟩
        · exact (racts_first (by omega) SH hl hs (by omega) hm he).mono fun e w' ⟨h, hb⟩ => ⟨hb, .inl ⟨er, .inr (.inr (.inr ⟨hF, he⟩)), h⟩⟩
end Go.Proofs.Ytdbiphibdaghkaa
/-
  TurnActs: the law's own walk.
-/
namespace Go.Proofs.Ytdbiphibdaghkaa
open Go.RowKit
set_option linter.unusedVariables false
set_option linter.unusedSimpArgs false
set_option linter.unnecessarySimpa false
set_option maxRecDepth 20000

/-- What a run tells. -/
structure Vw where
  k : Nat
  s : Nat → Stp
  n : Nat
  f : Nat → Int
  en : Bool
  m : Nat
  dn : Nat → Nat
  an : Nat → Nat → Ans
  er : Int

/-- A told value, as it is seen. -/
def TV (w : World) (V : Vw) (v : Value) : Prop :=
  ∃ sa sc wa wc aa ac, v = .tuple #[.agg #[.slice sa V.k sc, .slice wa V.n wc, .bool V.en], .slice aa V.m ac, .int .i64 V.er] ∧ SeesS w w.heap.size sa V.k V.s ∧ Sees w w.heap.size wa V.n V.f ∧ SeesA w w.heap.size aa V.m V.dn V.an

theorem views (P : Par) (f : Nat → Int) (most : Int) : ∃ V : Vw, V.k ≤ 65536 ∧ V.n ≤ 4096 ∧ V.m ≤ 8 ∧ (∀ h, h < V.m → V.dn h ≤ 256) ∧
    (∀ w e w', RAllB w P f most e w' → Below w.heap.size w w' ∧ ∃ v, e = .returned v ∧ TV w' V v) ∧ (∀ w e w', OfActs.AllB w P f most e w' → Below w.heap.size w w' ∧ ∃ v, e = .returned v ∧ TV w' V v) := by
  by_cases hE : ∃ er, ErrOf kAct P most er
  · obtain ⟨er, hE⟩ := hE
    have tv : ∀ w, TV w ⟨0, fun _ => ⟨0, 0, 0, 0, 0, false⟩, 0, fun _ => 0, false, 0, fun _ => 0, fun _ _ => ⟨false, 0⟩, er⟩ (errVal er) := fun w => ⟨none, 0, none, 0, none, 0, rfl, fun j hj => absurd hj (Nat.not_lt_zero j), fun j hj => absurd hj (Nat.not_lt_zero j), fun j hj => absurd hj (Nat.not_lt_zero j)⟩
    refine ⟨⟨0, fun _ => ⟨0, 0, 0, 0, 0, false⟩, 0, fun _ => 0, false, 0, fun _ => 0, fun _ _ => ⟨false, 0⟩, er⟩, Nat.zero_le _, Nat.zero_le _, Nat.zero_le _, fun _ _ => Nat.zero_le _, ?_, ?_⟩
    · rintro w e w' ⟨hb, ⟨er', h, rfl⟩ | ⟨h1, h2, _⟩⟩
      · obtain rfl := h.one hE
        exact ⟨hb, _, rfl, tv w'⟩
      · exact absurd ⟨h1, h2⟩ hE.not
    · rintro w e w' ⟨hb, ⟨er', h, rfl⟩ | ⟨h1, h2, _⟩⟩
      · obtain rfl := h.one hE
        exact ⟨hb, _, rfl, tv w'⟩
      · exact absurd ⟨h1, h2⟩ hE.not
  · by_cases hf : Fine P most
    · have st := runSt P (st0 kAct P f) most.toNat
      have hk : (runSt P (st0 kAct P f) most.toNat).k ≤ 65536 := by
        have := (runSt_k P (st0 kAct P f) rfl most.toNat).1
        have := hf.2.2.2
        omega
      have hnh : P.nh ≤ 8 := by rcases Nat.lt_or_ge 8 P.nh with l | l; exact absurd (.inl l) hf.2.1; exact l
      by_cases hd : ∀ h, h < P.nh → (runSt P (st0 kAct P f) most.toNat).done h ≤ 256
      · refine ⟨⟨(runSt P (st0 kAct P f) most.toNat).k, (runSt P (st0 kAct P f) most.toNat).s, P.n, (runSt P (st0 kAct P f) most.toNat).f, decide (cnt ((runSt P (st0 kAct P f) most.toNat).going P) P.nh = 0), P.nh, (runSt P (st0 kAct P f) most.toNat).done, (runSt P (st0 kAct P f) most.toNat).ans, 0⟩, hk, hf.1, hnh, hd, ?_, ?_⟩
        · rintro w e w' ⟨hb, ⟨er', h, rfl⟩ | ⟨h1, h2, v, rfl, blk, c, un, capw, sv, rfl, H, G⟩⟩
          · exact absurd ⟨_, h⟩ hE
          · obtain ⟨sa, sc, rfl⟩ := G.steps.isSlice'
            exact ⟨hb, _, rfl, sa, sc, _, _, _, _, rfl, G.steps.seesS H, G.seesW H, seesA_of G.answers H⟩
        · rintro w e w' ⟨hb, ⟨er', h, rfl⟩ | ⟨h1, h2, v, rfl, blk, c, g, sv, rfl, H, G, GS, R, hg, hne⟩⟩
          · exact absurd ⟨_, h⟩ hE
          · obtain ⟨sa, sc, rfl⟩ := GS.isSlice'
            exact ⟨hb, _, rfl, sa, sc, _, _, _, _, rfl, GS.seesS H, R.sees, seesA_of G.answers H⟩
      · refine ⟨⟨0, fun _ => ⟨0, 0, 0, 0, 0, false⟩, 0, fun _ => 0, false, 0, fun _ => 0, fun _ _ => ⟨false, 0⟩, 0⟩, Nat.zero_le _, Nat.zero_le _, Nat.zero_le _, fun _ _ => Nat.zero_le _, ?_, ?_⟩
        · rintro w e w' ⟨hb, ⟨er', h, rfl⟩ | ⟨h1, h2, v, rfl, blk, c, un, capw, sv, rfl, H, G⟩⟩
          · exact absurd ⟨_, h⟩ hE
          · exact absurd (fun h hh => Nat.le_trans (G.doneLe h hh) (G.jobs h hh)) hd
        · rintro w e w' ⟨hb, ⟨er', h, rfl⟩ | ⟨h1, h2, v, rfl, blk, c, g, sv, rfl, H, G, GS, R, hg, hne⟩⟩
          · exact absurd ⟨_, h⟩ hE
          · exact absurd (fun h hh => Nat.le_trans (G.doneLe h hh) (G.jobs h hh)) hd
    · refine ⟨⟨0, fun _ => ⟨0, 0, 0, 0, 0, false⟩, 0, fun _ => 0, false, 0, fun _ => 0, fun _ _ => ⟨false, 0⟩, 0⟩, Nat.zero_le _, Nat.zero_le _, Nat.zero_le _, fun _ _ => Nat.zero_le _, ?_, ?_⟩
      · rintro w e w' ⟨hb, ⟨er', h, rfl⟩ | ⟨h1, _⟩⟩
        · exact absurd ⟨_, h⟩ hE
        · exact absurd h1 hf
      · rintro w e w' ⟨hb, ⟨er', h, rfl⟩ | ⟨h1, _⟩⟩
        · exact absurd ⟨_, h⟩ hE
        · exact absurd h1 hf

variable {w : World} {ao aoh aos : Option Addr} {cap caph caps : Nat} {P : Par} {f : Nat → Int} {most : Int}

set_option maxHeartbeats 8000000 in
theorem acts_walk (S : Sees w w.heap.size ao P.n f) (hnil : ao = none → P.n = 0 ∧ cap = 0) (hn : P.n ≤ 9223372036854775807) (hf : ∀ i, i < P.n → 0 ≤ f i ∧ f i ≤ 18446744073709551615) (SH : SeesH w w.heap.size aoh P.nh P.jn P.jb) (hn63 : P.nh ≤ 9223372036854775807) (SI : SeesI w w.heap.size aos P.ns P.sched) (hjw : ∀ h, h < P.nh → ∀ j, j < P.jn h → (P.jb h j).wf) :
    Calls Try.prog 3 #[.slice ao P.n cap, .slice aoh P.nh caph, .slice aos P.ns caps, .int .i64 most] w fun e w' => e = .returned (.bool true) ∧ Below w.heap.size w w' := by
  have ups : Hid (∀ w1, Below w.heap.size w w1 → Sees w1 w1.heap.size ao P.n f ∧ SeesH w1 w1.heap.size aoh P.nh P.jn P.jb ∧ SeesI w1 w1.heap.size aos P.ns P.sched) := by
    intro w1 B1
    have hs1 := B1.size
    refine ⟨(S.below B1 (Nat.le_refl _)).mono hs1, fun i hi => ?_, fun i hi => ?_⟩
    · obtain ⟨b, off, ao', cap, e, hb, hc, hj⟩ := SH.below B1 (Nat.le_refl _) i hi
      exact ⟨b, off, ao', cap, e, by omega, hc, fun q hq => by obtain ⟨b', off', e', hb', hc'⟩ := hj q hq; exact ⟨b', off', e', by omega, hc'⟩⟩
    · obtain ⟨b, off, e, hb, hc⟩ := SI.below B1 (Nat.le_refl _) i hi
      exact ⟨b, off, e, by omega, hc⟩
  have HN := hide hnil
  have HF := hide hf
  have HJW := hide hjw
  obtain ⟨V, v1, v2, v3, v4, v5, v6⟩ := views P f most
  obtain ⟨k, s, n, f', en, m, dn, an, er⟩ := V
  simp only at v1 v2 v3 v4
  have V4 := hide v4
  have V5 := hide v5
  have V6 := hide v6
  clear S SH SI hjw hnil hf v4 v5 v6
  go_enter Try.func3, Try.ntmps3
  go_wp2_with fail
  refine (OfActs.awake_any w).mono ?_
  rintro e w1 ⟨rfl, hb1⟩
  have hs1 := hb1.size
  have B1 := hide hb1
  clear hb1
  go_wp2_with fail
  refine (racts_all (ups.out w1 B1.out).1 HN.out hn HF.out (ups.out w1 B1.out).2.1 hn63 (ups.out w1 B1.out).2.2 HJW.out).mono ?_
  rintro e w2 ha
  obtain ⟨hb2, v, rfl, sa, sc, wa, wc, aa, ac, rfl, S2, W2, A2⟩ := V5.out _ _ _ ha
  have hs2 := hb2.size
  have B2 := hide (B1.out.trans (hb2.mono hs1))
  have HS2 := hide S2
  have HW2 := hide W2
  have HA2 := hide A2
  clear ha hb2 S2 W2 A2
  obtain ⟨W3, hW3⟩ : ∃ W3, w2.alloc (.cells #[.slice sa k sc, .slice wa n wc, .bool en] 28) = W3 := ⟨_, rfl⟩
  have B23 : Below w2.heap.size w2 W3 := by rw [← hW3]; exact (Below.refl _ w2).alloc (Nat.le_refl _) _
  have B3 := hide (B2.out.trans (B23.mono (by omega)))
  have R3 := hide (show W3.rowIs w2.heap.size 28 3 (lrow [.slice sa k sc, .slice wa n wc, .bool en]) from by rw [← hW3]; exact rowL_alloc w2 [.slice sa k sc, .slice wa n wc, .bool en] _ rfl)
  have HB23 := hide B23
  have hs3 : W3.heap.size = w2.heap.size + 1 := by rw [← hW3]; simp
  clear B23
  go_wp2_with fail
  refine (OfActs.acts_all (ups.out W3 B3.out).1 HF.out (ups.out W3 B3.out).2.1 hn63 (ups.out W3 B3.out).2.2 HJW.out).mono ?_
  rintro e w4 ha
  obtain ⟨hb4, v, rfl, sa', sc', wa', wc', aa', ac', rfl, S4, W4, A4⟩ := V6.out _ _ _ ha
  have hs4 := hb4.size
  have HB4 := hide hb4
  have HS4 := hide S4
  have HW4 := hide W4
  have HA4 := hide A4
  clear ha hb4 S4 W4 A4 hW3
  obtain ⟨W5, hW5⟩ : ∃ W5, w4.alloc (.cells #[.slice sa' k sc', .slice wa' n wc', .bool en] 28) = W5 := ⟨_, rfl⟩
  have B45 : Below w4.heap.size w4 W5 := by rw [← hW5]; exact (Below.refl _ w4).alloc (Nat.le_refl _) _
  have R5 := hide (show W5.rowIs w4.heap.size 28 3 (lrow [.slice sa' k sc', .slice wa' n wc', .bool en]) from by rw [← hW5]; exact rowL_alloc w4 [.slice sa' k sc', .slice wa' n wc', .bool en] _ rfl)
  have hs5 : W5.heap.size = w4.heap.size + 1 := by rw [← hW5]; simp
  have R35 := hide (R3.out.of_block ((HB4.out.trans (B45.mono (by omega))).block _ (by omega)))
  have B25 := hide (HB23.out.trans ((HB4.out.trans (B45.mono (by omega))).mono (by omega)))
  have B5 := hide (B3.out.trans ((HB4.out.trans (B45.mono (by omega))).mono (by omega)))
  have HB45 := hide B45
  have c0 : W5.cell? ⟨w2.heap.size, 0, none⟩ = some (.slice sa k sc) := R35.out.cell (i := 0) (by omega)
  have c1 : W5.cell? ⟨w2.heap.size, 1, none⟩ = some (.slice wa n wc) := R35.out.cell (i := 1) (by omega)
  have c2 : W5.cell? ⟨w2.heap.size, 2, none⟩ = some (.bool en) := R35.out.cell (i := 2) (by omega)
  have d0 : W5.cell? ⟨w4.heap.size, 0, none⟩ = some (.slice sa' k sc') := R5.out.cell (i := 0) (by omega)
  have d1 : W5.cell? ⟨w4.heap.size, 1, none⟩ = some (.slice wa' n wc') := R5.out.cell (i := 1) (by omega)
  have d2 : W5.cell? ⟨w4.heap.size, 2, none⟩ = some (.bool en) := R5.out.cell (i := 2) (by omega)
  have l24 : w2.heap.size ≤ W5.heap.size := by omega
  have l45 : w4.heap.size ≤ W5.heap.size := by omega
  have hws : w.heap.size ≤ W5.heap.size := by omega
  have l25 : w2.heap.size ≤ w2.heap.size := Nat.le_refl _
  clear B45
  go_wp2_with (first
    | (go_at_call 12; refine (same_trace ((HS4.out.below HB45.out (Nat.le_refl _)).mono l45) ((HS2.out.below B25.out (Nat.le_refl _)).mono l24) ((HW4.out.below HB45.out (Nat.le_refl _)).mono l45) ((HW2.out.below B25.out (Nat.le_refl _)).mono l24) v2 v1).mono ?_; rintro e w6 ⟨rfl, hb6⟩; have HB6 := hide hb6; clear hb6)
    | (go_at_call 13; refine (same_answers (((HA4.out.below HB45.out (Nat.le_refl _)).mono l45).below HB6.out (Nat.le_refl _)) (((HA2.out.below B25.out (Nat.le_refl _)).mono l24).below HB6.out (Nat.le_refl _)) v3 V4.out).mono ?_; rintro e w7 ⟨rfl, m7, hw7⟩; subst hw7))
  go_ret
  exact ⟨rfl, below_drewN (B5.out.trans (HB6.out.mono hws)) _⟩
end Go.Proofs.Ytdbiphibdaghkaa
/-
  The statement's own tasks of several steps: start.
-/
namespace Go.Proofs.Ytdbiphibdaghkaa
open Go.RowKit
set_option linter.unusedVariables false
set_option linter.unusedSimpArgs false
set_option linter.unnecessarySimpa false
set_option maxRecDepth 20000

set_option maxHeartbeats 4000000 in
theorem startW_ok (w : World) (sh : Shp) (hand : Int) (j : Jb) (h : kWk.err j = 0) :
    Calls Try.prog 52 #[sh.val, .int .i64 hand, j.val, kept0] w fun e w' => e = .returned (.tuple #[.agg (tk .zero hand j j.b .zero ⟨false, 0⟩).toArray, .int .i64 0]) ∧ Below w.heap.size w w' := by
  obtain ⟨s0, s1, s2, s3, s4, s5⟩ := sh
  obtain ⟨kind, a, b, c, hh⟩ := j
  obtain rfl : kind = 1 := by simp only [kWk] at h; split at h; assumption; split at h <;> cases h
  obtain ⟨l, hl⟩ : ∃ l, tk .zero hand ⟨1, a, b, c, hh⟩ b .zero ⟨false, 0⟩ = l := ⟨_, rfl⟩
  rw [hl]
  have hl1 := hide (show IsTk l from by rw [← hl]; exact tk_is _ _ _ _ _ _)
  have hla : Value.agg #[.int .i64 0, .int .i64 0, .int .i64 0, .int .i64 0, .int .i64 0, .int .i64 0, .int .i64 hand, .int .i64 1, .int .i64 a, .int .i64 b, .int .i64 c, .int .u64 hh, .int .i64 b, .int .u64 0, .int .u64 0, .int .u64 0, .int .u64 0, .int .u64 0, .int .u64 0, .int .u64 0, .int .u64 0, .slice none 0 0, .bool false, .int .u64 0, .int .u64 0, .int .u64 0, .int .u64 0, .int .u64 0] = .agg l.toArray := by rw [← hl]; rfl
  have HLA := hide hla
  obtain ⟨W4, hW4⟩ : ∃ W4, (((w.alloc (.cells #[.int .i64 s0, .int .i64 s1, .int .i64 s2, .int .i64 s3, .int .i64 s4, .int .i64 s5] 42)).alloc (.cells #[.int .i64 1, .int .i64 a, .int .i64 b, .int .i64 c, .int .u64 hh] 54)).alloc (.cells #[.int .u64 0, .int .u64 0, .int .u64 0, .int .u64 0] 77)).alloc (.cells #[.int .i64 0, .int .i64 0, .int .i64 0, .int .i64 0, .int .i64 0, .int .i64 0, .int .i64 0, .int .i64 0, .int .i64 0, .int .i64 0, .int .i64 0, .int .u64 0, .int .i64 0, .int .u64 0, .int .u64 0, .int .u64 0, .int .u64 0, .int .u64 0, .int .u64 0, .int .u64 0, .int .u64 0, .slice none 0 0, .bool false, .int .u64 0, .int .u64 0, .int .u64 0, .int .u64 0, .int .u64 0] 79) = W4 := ⟨_, rfl⟩
  have th : W4.there (w.heap.size + 3) 0 28 := by
    rw [← hW4]
    have := there_alloc_new (w := ((w.alloc (.cells #[.int .i64 s0, .int .i64 s1, .int .i64 s2, .int .i64 s3, .int .i64 s4, .int .i64 s5] 42)).alloc (.cells #[.int .i64 1, .int .i64 a, .int .i64 b, .int .i64 c, .int .u64 hh] 54)).alloc (.cells #[.int .u64 0, .int .u64 0, .int .u64 0, .int .u64 0] 77)) (t := 79) (cs := tk0)
    simpa [tk0] using this
  have HTH := hide th
  have B4 := hide (show Below w.heap.size w W4 from by rw [← hW4]; exact ((((Below.refl _ w).alloc (Nat.le_refl _) _).alloc (by simp) _).alloc (by simp; omega) _).alloc (by simp; omega) _)
  have r0 : W4.rangeAt w.heap.size 0 [.int .i64 s0, .int .i64 s1, .int .i64 s2, .int .i64 s3, .int .i64 s4, .int .i64 s5] := by rw [← hW4]; exact World.rangeAt_alloc (World.rangeAt_alloc (World.rangeAt_alloc (cell_range (b := 0)) _) _) _
  have r1 : W4.rangeAt (w.heap.size + 1) 0 [.int .i64 1, .int .i64 a, .int .i64 b, .int .i64 c, .int .u64 hh] := by
    rw [← hW4]
    have := cell_range (b := 0) (w := w.alloc (.cells #[.int .i64 s0, .int .i64 s1, .int .i64 s2, .int .i64 s3, .int .i64 s4, .int .i64 s5] 42)) (t := 54) (cs := [.int .i64 1, .int .i64 a, .int .i64 b, .int .i64 c, .int .u64 hh])
    rw [World.size_alloc] at this
    exact World.rangeAt_alloc (World.rangeAt_alloc this _) _
  have g := fun i v hv => r0 i v hv
  have g' := fun i v hv => r1 i v hv
  simp only [Nat.zero_add] at g g'
  have c0 := g 0 _ rfl
  have c1 := g 1 _ rfl
  have c2 := g 2 _ rfl
  have c3 := g 3 _ rfl
  have c4 := g 4 _ rfl
  have c5 := g 5 _ rfl
  have d0 := g' 0 _ rfl
  have d1 := g' 1 _ rfl
  have d2 := g' 2 _ rfl
  have d3 := g' 3 _ rfl
  have d4 := g' 4 _ rfl
  clear g g' r0 r1
  obtain ⟨dT, hdT1, hdT2⟩ := row79
  have DT1 := hide hdT1
  have DT2 := hide hdT2
  have sz4 : W4.heap.size = w.heap.size + 4 := by rw [← hW4]; simp
  obtain ⟨W5, hW5⟩ : ∃ W5, W4.alloc (.cells #[.int .i64 0, .int .i64 0, .int .i64 0, .int .i64 0, .int .i64 0, .int .i64 0, .int .i64 0, .int .i64 0, .int .i64 0, .int .i64 0, .int .i64 0, .int .u64 0, .int .i64 0, .int .u64 0, .int .u64 0, .int .u64 0, .int .u64 0, .int .u64 0, .int .u64 0, .int .u64 0, .int .u64 0, .slice none 0 0, .bool false, .int .u64 0, .int .u64 0, .int .u64 0, .int .u64 0, .int .u64 0] 79) = W5 := ⟨_, rfl⟩
  have HTH5 := hide (show W5.there (w.heap.size + 4) 0 28 from by
    rw [← hW5, ← sz4]
    have := there_alloc_new (w := W4) (t := 79) (cs := tk0)
    simpa [tk0] using this)
  have HTH3 := hide (show W5.there (w.heap.size + 3) 0 28 from there_block th (by rw [← hW5]; exact Below.heap_alloc _ _ _ (by omega)))
  have B5 := hide (show Below w.heap.size w W5 from by rw [← hW5]; exact B4.out.alloc (by omega) _)
  have sz5 : W5.heap.size = w.heap.size + 5 := by rw [← hW5]; simp [sz4]
  have e0 : W4.cell? ⟨w.heap.size + 1, 0, none⟩ = some (.int .i64 1) := d0
  clear hdT1 hdT2 hl th hla
  unfold Shp.val Jb.val kept0
  simp only
  go_enter Try.func52, Try.ntmps52
  go_wp2_with (first
    | (refine wpList_store_mid (by rfl) 79 (.tmp 10) (.tmp 19) (by rfl) (w.heap.size + 4) 0 l.toArray (by rfl) (by exact HLA.out) (by simpa [hl1.out.1] using HTH5.out) (by simpa [hl1.out.1] using size79) (by exact all_oneCell_toArray hl1.out.2) ?_; generalize hw6 : World.setCells _ _ _ _ = w6; have HW6 := hide hw6; have R6 := hide (show w6.rangeAt (w.heap.size + 4) 0 l from (by rw [← hw6]; exact World.rangeAt_setCells_same W5 (w.heap.size + 4) 0 l (by rw [hl1.out.1]; exact HTH5.out))); clear hw6)
    | (refine wpList_load_mid (by rfl) 79 (.tmp 10) (by rfl) (w.heap.size + 4) 0 (by rfl) l dT (by exact R6.out) (by exact DT1.out) (by exact DT2.out) (by rw [hl1.out.1]; exact size79) ?_)
    | (refine wpList_store_mid (by rfl) 79 (.tmp 8) (.tmp 20) (by rfl) (w.heap.size + 3) 0 l.toArray (by rfl) (by rfl) (by rw [← HW6.out]; exact World.there_setCells (by simpa [hl1.out.1] using HTH3.out) _ _ _) (by simpa [hl1.out.1] using size79) (by exact all_oneCell_toArray hl1.out.2) ?_))
  have r5 := World.rangeAt_setCells_same w6 (w.heap.size + 3) 0 l (by rw [← HW6.out, hl1.out.1]; exact World.there_setCells HTH3.out _ _ _)
  refine bodyPost_ret (v := .tuple #[.agg l.toArray, .int .i64 0]) ?res rfl ⟨rfl, ?bel⟩
  case res => exact results_ct (fn := Try.f52) (t := 8) (t' := 9) (by rfl) (by rfl) (run_loadVar_mid _ _ 0 _ l dT r5 DT1.out DT2.out (by rw [hl1.out.1]; exact size79))
  case bel =>
    have b6 : Below w.heap.size w w6 := by rw [← HW6.out]; exact B5.out.trans ((touch_setCells (w.heap.size + 4) l 0 W5).below (fun k hk => by omega) B5.out.size)
    exact b6.trans ((touch_setCells (w.heap.size + 3) l 0 w6).below (fun k hk => by omega) b6.size)
set_option maxHeartbeats 4000000 in
theorem startW_err (w : World) (sh : Shp) (hand : Int) (j : Jb) (h : ¬ kWk.err j = 0) :
    Calls Try.prog 52 #[sh.val, .int .i64 hand, j.val, kept0] w fun e w' => e = .returned (.tuple #[.agg tk0.toArray, .int .i64 (kWk.err j)]) ∧ Below w.heap.size w w' := by
  obtain ⟨s0, s1, s2, s3, s4, s5⟩ := sh
  obtain ⟨kind, a, b, c, hh⟩ := j
  obtain ⟨er, hk⟩ : ∃ er, kWk.err ⟨kind, a, b, c, hh⟩ = er ∧ ((kind = 2 ∧ er = 200) ∨ (¬ kind = 1 ∧ ¬ kind = 2 ∧ er = 77)) := ⟨_, rfl, by
    simp only [kWk] at h ⊢
    by_cases h1 : kind = 1
    · rw [if_pos h1] at h; exact absurd rfl h
    · rw [if_neg h1]
      by_cases h2 : kind = 2
      · rw [if_pos h2]; exact .inl ⟨h2, rfl⟩
      · rw [if_neg h2]; exact .inr ⟨h1, h2, rfl⟩⟩
  rw [hk.1]
  replace hk := hk.2
  clear h
  obtain ⟨l, hl⟩ : ∃ l, tk0 = l := ⟨_, rfl⟩
  rw [hl]
  have hl1 := hide (show IsTk l from by rw [← hl]; exact tk0_is)
  have hla : Value.agg #[.int .i64 0, .int .i64 0, .int .i64 0, .int .i64 0, .int .i64 0, .int .i64 0, .int .i64 0, .int .i64 0, .int .i64 0, .int .i64 0, .int .i64 0, .int .u64 0, .int .i64 0, .int .u64 0, .int .u64 0, .int .u64 0, .int .u64 0, .int .u64 0, .int .u64 0, .int .u64 0, .int .u64 0, .slice none 0 0, .bool false, .int .u64 0, .int .u64 0, .int .u64 0, .int .u64 0, .int .u64 0] = .agg l.toArray := by rw [← hl]; rfl
  have HLA := hide hla
  obtain ⟨W4, hW4⟩ : ∃ W4, (((w.alloc (.cells #[.int .i64 s0, .int .i64 s1, .int .i64 s2, .int .i64 s3, .int .i64 s4, .int .i64 s5] 42)).alloc (.cells #[.int .i64 kind, .int .i64 a, .int .i64 b, .int .i64 c, .int .u64 hh] 54)).alloc (.cells #[.int .u64 0, .int .u64 0, .int .u64 0, .int .u64 0] 77)).alloc (.cells #[.int .i64 0, .int .i64 0, .int .i64 0, .int .i64 0, .int .i64 0, .int .i64 0, .int .i64 0, .int .i64 0, .int .i64 0, .int .i64 0, .int .i64 0, .int .u64 0, .int .i64 0, .int .u64 0, .int .u64 0, .int .u64 0, .int .u64 0, .int .u64 0, .int .u64 0, .int .u64 0, .int .u64 0, .slice none 0 0, .bool false, .int .u64 0, .int .u64 0, .int .u64 0, .int .u64 0, .int .u64 0] 79) = W4 := ⟨_, rfl⟩
  have th : W4.there (w.heap.size + 3) 0 28 := by
    rw [← hW4]
    have := there_alloc_new (w := ((w.alloc (.cells #[.int .i64 s0, .int .i64 s1, .int .i64 s2, .int .i64 s3, .int .i64 s4, .int .i64 s5] 42)).alloc (.cells #[.int .i64 kind, .int .i64 a, .int .i64 b, .int .i64 c, .int .u64 hh] 54)).alloc (.cells #[.int .u64 0, .int .u64 0, .int .u64 0, .int .u64 0] 77)) (t := 79) (cs := tk0)
    simpa [tk0] using this
  have HTH := hide th
  have B4 := hide (show Below w.heap.size w W4 from by rw [← hW4]; exact ((((Below.refl _ w).alloc (Nat.le_refl _) _).alloc (by simp) _).alloc (by simp; omega) _).alloc (by simp; omega) _)
  have r0 : W4.rangeAt w.heap.size 0 [.int .i64 s0, .int .i64 s1, .int .i64 s2, .int .i64 s3, .int .i64 s4, .int .i64 s5] := by rw [← hW4]; exact World.rangeAt_alloc (World.rangeAt_alloc (World.rangeAt_alloc (cell_range (b := 0)) _) _) _
  have r1 : W4.rangeAt (w.heap.size + 1) 0 [.int .i64 kind, .int .i64 a, .int .i64 b, .int .i64 c, .int .u64 hh] := by
    rw [← hW4]
    have := cell_range (b := 0) (w := w.alloc (.cells #[.int .i64 s0, .int .i64 s1, .int .i64 s2, .int .i64 s3, .int .i64 s4, .int .i64 s5] 42)) (t := 54) (cs := [.int .i64 kind, .int .i64 a, .int .i64 b, .int .i64 c, .int .u64 hh])
    rw [World.size_alloc] at this
    exact World.rangeAt_alloc (World.rangeAt_alloc this _) _
  have g := fun i v hv => r0 i v hv
  have g' := fun i v hv => r1 i v hv
  simp only [Nat.zero_add] at g g'
  have c0 := g 0 _ rfl
  have c1 := g 1 _ rfl
  have c2 := g 2 _ rfl
  have c3 := g 3 _ rfl
  have c4 := g 4 _ rfl
  have c5 := g 5 _ rfl
  have d0 := g' 0 _ rfl
  have d1 := g' 1 _ rfl
  have d2 := g' 2 _ rfl
  have d3 := g' 3 _ rfl
  have d4 := g' 4 _ rfl
  clear g g' r0 r1
  obtain ⟨dT, hdT1, hdT2⟩ := row79
  have DT1 := hide hdT1
  have DT2 := hide hdT2
  clear hdT1 hdT2 hl th hla
  unfold Shp.val Jb.val kept0
  simp only
  rcases hk with ⟨rfl, rfl⟩ | ⟨hk1, hk2, rfl⟩
  ·
    go_enter Try.func52, Try.ntmps52
    go_wp2_with (refine wpList_store_mid (by rfl) 79 (.tmp 8) (.tmp 23) (by rfl) (w.heap.size + 3) 0 l.toArray (by rfl) (by exact HLA.out) (by simpa [hl1.out.1] using HTH.out) (by simpa [hl1.out.1] using size79) (by exact all_oneCell_toArray hl1.out.2) ?_)
    have r5 := World.rangeAt_setCells_same W4 (w.heap.size + 3) 0 l (by rw [hl1.out.1]; exact HTH.out)
    refine bodyPost_ret (v := .tuple #[.agg l.toArray, .int .i64 200]) ?res rfl ⟨rfl, ?bel⟩
    case res => exact results_ct (fn := Try.f52) (t := 8) (t' := 9) (by rfl) (by rfl) (run_loadVar_mid _ _ 0 _ l dT r5 DT1.out DT2.out (by rw [hl1.out.1]; exact size79))
    case bel => exact B4.out.trans ((touch_setCells (w.heap.size + 3) l 0 W4).below (fun k hk => by omega) B4.out.size)
  ·
    go_enter Try.func52, Try.ntmps52
    go_wp2_with (refine wpList_store_mid (by rfl) 79 (.tmp 8) (.tmp 24) (by rfl) (w.heap.size + 3) 0 l.toArray (by rfl) (by exact HLA.out) (by simpa [hl1.out.1] using HTH.out) (by simpa [hl1.out.1] using size79) (by exact all_oneCell_toArray hl1.out.2) ?_)
    have r5 := World.rangeAt_setCells_same W4 (w.heap.size + 3) 0 l (by rw [hl1.out.1]; exact HTH.out)
    refine bodyPost_ret (v := .tuple #[.agg l.toArray, .int .i64 77]) ?res rfl ⟨rfl, ?bel⟩
    case res => exact results_ct (fn := Try.f52) (t := 8) (t' := 9) (by rfl) (by rfl) (run_loadVar_mid _ _ 0 _ l dT r5 DT1.out DT2.out (by rw [hl1.out.1]; exact size79))
    case bel => exact B4.out.trans ((touch_setCells (w.heap.size + 3) l 0 W4).below (fun k hk => by omega) B4.out.size)
end Go.Proofs.Ytdbiphibdaghkaa
/-
  A region that draws its order, reads by a table and writes two variables made ahead of it.
-/
namespace Go.Proofs.Ytdbiphibdaghkaa
open Go.RowKit
set_option linter.unusedVariables false
set_option linter.unusedSimpArgs false
set_option linter.unnecessarySimpa false

namespace RetN

def pv (ks : List (Nat × Nat)) (vals : Nat → Value) (i : Nat) : Option (Nat × Value) := (Reg.look ks i).map (fun d => (d, vals i))
def D (ks : List (Nat × Nat)) (k : Nat) : Prop := (ks.any (fun p => p.2 == k)) = true

structure In (ks : List (Nat × Nat)) (vals : Nat → Value) (w0 : World) (a0 : Act) (C E iC iE : Nat) (lt ls : List Value) (L : Nat → Bool) (a : Act) (w : World) : Prop where
  sz : a.tmps.size = a0.tmps.size
  df : a.defers = a0.defers
  fix : ∀ k, ¬ D ks k → a.eval (.tmp k) = a0.eval (.tmp k)
  pure : ∀ i d v, pv ks vals i = some (d, v) → L i = true → a.eval (.tmp d) = v
  tch : Touch w0 w (fun k => k = C ∨ k = E)
  tC : w.there C 0 lt.length
  tE : w.there E 0 ls.length
  sC : L iC = true → w.rangeAt C 0 lt
  sE : L iE = true → w.rangeAt E 0 ls

theorem region {P : Program} {id : Nat} {ops : Array Oper} {Q : Exit → Act → World → Prop} {ks : List (Nat × Nat)} {vals : Nat → Value} {w0 : World} {a0 : Act} {C E iC iE : Nat} {lt ls : List Value}
    (hm : P.follows .mixedOrders = true) (hg : ∀ (i : Nat) (o : Oper), ops[i]? = some o → o.guard = none) (hback : ∀ (i : Nat) (o : Oper), ops[i]? = some o → ∀ e ∈ o.after, Region.binds .any e = true → e.on < i)
    (hgood : (ks.all fun p => (ks.all fun q => p.1 == q.1 || p.2 != q.2) && (p.1 != iC && p.1 != iE)) = true) (hCE : C ≠ E) (hi : iC ≠ iE) (hD : ∀ k, D ks k → k < a0.tmps.size)
    (hl : ∀ u ∈ lt, u.oneCell' = true) (hs : ∀ u ∈ ls, u.oneCell' = true) (tC : w0.there C 0 lt.length) (tE : w0.there E 0 ls.length)
    (kinds : ∀ (i : Nat) (o : Oper), ops[i]? = some o →
      (∃ d v, pv ks vals i = some (d, v) ∧ o.dst = some d ∧ ∀ L a w, In ks vals w0 a0 C E iC iE lt ls L a w → (∀ e ∈ o.after, Region.binds .any e = true → L e.on = true) → (execOp a.eval o).run P w = .ok (.value v) w) ∨
      (i = iC ∧ o.dst = none ∧ ∃ ty x y, o.op = .store ty x y ∧ (P.info? ty).map (·.size) = some lt.length ∧ ∀ L a w, In ks vals w0 a0 C E iC iE lt ls L a w → (∀ e ∈ o.after, Region.binds .any e = true → L e.on = true) → a.eval x = .pointer (some ⟨C, 0, none⟩) ∧ a.eval y = .agg lt.toArray) ∨
      (i = iE ∧ o.dst = none ∧ ∃ ty x y, o.op = .store ty x y ∧ (P.info? ty).map (·.size) = some ls.length ∧ ∀ L a w, In ks vals w0 a0 C E iC iE lt ls L a w → (∀ e ∈ o.after, Region.binds .any e = true → L e.on = true) → a.eval x = .pointer (some ⟨E, 0, none⟩) ∧ a.eval y = .agg ls.toArray))
    (fin : ∀ L a w, In ks vals w0 a0 C E iC iE lt ls L a w → (∀ i, i < ops.size → L i = true) → Q .normal a w) :
    (Code.region id ops true).wp P Q a0 w0 := by
  simp only [Bool.and_eq_true, List.all_eq_true, bne_iff_ne, Bool.or_eq_true, beq_iff_eq] at hgood
  have pvm : ∀ {i d v}, pv ks vals i = some (d, v) → (i, d) ∈ ks := fun {i d v} h => by
    obtain ⟨d', h1, h2⟩ := Option.map_eq_some_iff.1 h
    cases h2; exact Reg.look_mem h1
  refine region_inv hm hg hback (fun L a w => In ks vals w0 a0 C E iC iE lt ls L a w) ?step (fun L a w h hall => fin L a w h hall) ?start
  case start => exact ⟨rfl, rfl, fun _ _ => rfl, fun _ _ _ _ h => (by cases h), ⟨rfl, rfl, rfl, Nat.le_refl _, fun _ _ _ => rfl⟩, tC, tE, fun h => (by cases h), fun h => (by cases h)⟩
  case step =>
    rintro L a w i o h ho hL hd
    rcases kinds i o ho with ⟨d, v, hv, hdst, hrun⟩ | ⟨rfl, hdst, ty, x, y, hop, hsz, hev⟩ | ⟨rfl, hdst, ty, x, y, hop, hsz, hev⟩
    · refine wp_value (hrun L a w h hd) ?_
      rw [hdst]
      have hm' := pvm hv
      obtain ⟨hap, hnC, hnE⟩ := hgood _ hm'
      have hDd : D ks d := by simp only [D, List.any_eq_true, beq_iff_eq]; exact ⟨_, hm', rfl⟩
      have e : ∀ k : Nat, k ≠ d → (a.put (some d) v).eval (.tmp k) = a.eval (.tmp k) := fun k hk => put_other hk
      refine ⟨by rw [put_size]; exact h.sz, by rw [put_defs]; exact h.df, fun k hk => ?_, fun j d' v' hj hLj => ?_, h.tch, h.tC, h.tE, fun h1 => h.sC ?_, fun h1 => h.sE ?_⟩
      · rw [e k (fun he => hk (he ▸ hDd))]; exact h.fix k hk
      · by_cases hij : j = i
        · subst hij
          rw [hv] at hj; cases hj
          exact put_eval (by rw [h.sz]; exact hD _ hDd)
        · rw [upd_other _ _ hij] at hLj
          have : d' ≠ d := by
            rcases hap _ (pvm hj) with e1 | e1
            · exact absurd e1.symm hij
            · exact Ne.symm e1
          rw [e d' this]
          exact h.pure j d' v' hj hLj
      · rwa [upd_other _ _ (Ne.symm hnC)] at h1
      · rwa [upd_other _ _ (Ne.symm hnE)] at h1
    · obtain ⟨px, py⟩ := hev L a w h hd
      refine wp_store_mid ty x y hop C 0 lt.toArray px py (by simpa using h.tC) (by simpa using hsz) (all_oneCell_toArray hl) ?_
      rw [hdst]
      have tt := touch_setCells C lt 0 w
      have sm := World.rangeAt_setCells_same w C 0 lt h.tC
      have nk : ∀ {j d v}, pv ks vals j = some (d, v) → j ≠ i := fun {j d v} hj => (hgood _ (pvm hj)).2.1
      exact ⟨h.sz, h.df, h.fix, fun j d' v' hj hLj => h.pure j d' v' hj (by rwa [upd_other _ _ (nk hj)] at hLj), h.tch.trans' tt (fun k _ h => .inl h), World.there_setCells h.tC _ _ _, World.there_setCells h.tE _ _ _, fun _ => sm, fun h1 => World.rangeAt_setCells_apart (h.sE (by rwa [upd_other _ _ (Ne.symm hi)] at h1)) _ _ _ (.inl (Ne.symm hCE))⟩
    · obtain ⟨px, py⟩ := hev L a w h hd
      refine wp_store_mid ty x y hop E 0 ls.toArray px py (by simpa using h.tE) (by simpa using hsz) (all_oneCell_toArray hs) ?_
      rw [hdst]
      have tt := touch_setCells E ls 0 w
      have sm := World.rangeAt_setCells_same w E 0 ls h.tE
      have nk : ∀ {j d v}, pv ks vals j = some (d, v) → j ≠ i := fun {j d v} hj => (hgood _ (pvm hj)).2.2
      exact ⟨h.sz, h.df, h.fix, fun j d' v' hj hLj => h.pure j d' v' hj (by rwa [upd_other _ _ (nk hj)] at hLj), h.tch.trans' tt (fun k _ h => .inr h), World.there_setCells h.tC _ _ _, World.there_setCells h.tE _ _ _, fun h1 => World.rangeAt_setCells_apart (h.sC (by rwa [upd_other _ _ hi] at h1)) _ _ _ (.inl hCE), fun _ => sm⟩
end RetN
end Go.Proofs.Ytdbiphibdaghkaa
/-
  The statement's own tasks of several steps: step.
-/
namespace Go.Proofs.Ytdbiphibdaghkaa
open Go.RowKit
set_option linter.unusedVariables false
set_option linter.unusedSimpArgs false
set_option linter.unnecessarySimpa false
set_option maxRecDepth 20000

theorem ex_leq {ev : Operand → Value} {o : Oper} {w : World} {x : Operand} {n : Int} (ho : o.op = .binOp .leq 3 x (.const (.int .i64 0)) 3) (hx : ev x = .int .i64 n) (hc : ev (.const (.int .i64 0)) = .int .i64 0 := by rfl) : (execOp ev o).run Try.prog w = .ok (.value (.bool (decide (n ≤ 0)))) w := by
  simp [execOp, ho, hx, hc, go_sem]
theorem field79 (w : World) (b : Nat) : (Instr.fieldAt 79 (.pointer (some ⟨b, 0, none⟩)) 3).run Try.prog w = .ok (.pointer (some ⟨b, 12, none⟩)) w := by simp [go_sem]
theorem agg3 (w : World) : (isAgg 3).run Try.prog w = .ok false w := by simp [go_sem]

set_option maxHeartbeats 4000000 in
theorem stepW_any {w : World} {g n cap : Nat} {f : Nat → Int} (s : WkS) (jb c : Int) (ok : Bool) (hr : IsRow w g n cap f) (hw : 0 ≤ s.h ∧ s.h ≤ 18446744073709551615) :
    Calls Try.prog 53 #[.agg (tk .zero s.hand ⟨1, s.at_, jb, c, s.h⟩ s.left .zero ⟨ok, s.sum⟩).toArray, .slice (some ⟨g, 0, none⟩) n cap] w fun e w' =>
      e = .returned (.tuple #[.agg (tk .zero s.hand ⟨1, wrap64 (s.at_ + 1), jb, c, s.h⟩ (wrap64 (s.left - 1)) .zero ⟨true, (s.sum + (stepOf n f (kWk.req s)).had) % 18446744073709551616⟩).toArray, (stepOf n f (kWk.req s)).val, .bool (decide (wrap64 (s.left - 1) ≤ 0))]) ∧ IsRow w' g n cap (wordsOf n f (kWk.req s)) ∧ w.grownBy w' (some g) := by
  obtain ⟨hand, at_, left, hh, sum⟩ := s
  obtain ⟨x, hx⟩ : ∃ x, stepOf n f (kWk.req ⟨hand, at_, left, hh, sum⟩) = x := ⟨_, rfl⟩
  rw [hx]
  obtain ⟨f', hf'⟩ : ∃ f', wordsOf n f (kWk.req ⟨hand, at_, left, hh, sum⟩) = f' := ⟨_, rfl⟩
  rw [hf']
  have DO := hide (fun (w' : World) (hr' : IsRow w' g n cap f) => ref_do (s := ⟨hand, 4, at_, 0, hh, true⟩) hr' hw ⟨by show (1 : Int) ≤ 4; decide, by show (4 : Int) ≤ 5; decide⟩)
  have HX : Hid (stepOf n f ⟨hand, 4, at_, 0, hh, true⟩ = x) := hx
  have HF : Hid (wordsOf n f ⟨hand, 4, at_, 0, hh, true⟩ = f') := hf'
  have HR := hide hr
  have lg := hr.lt
  obtain ⟨at1, hat1⟩ : ∃ y, wrap64 (at_ + 1) = y := ⟨_, rfl⟩
  obtain ⟨lf1, hlf1⟩ : ∃ y, wrap64 (left - 1) = y := ⟨_, rfl⟩
  obtain ⟨sm1, hsm1⟩ : ∃ y, (sum + x.had) % 18446744073709551616 = y := ⟨_, rfl⟩
  simp only [hat1, hlf1, hsm1]
  obtain ⟨l0, hl0⟩ : ∃ l, tk .zero hand ⟨1, at_, jb, c, hh⟩ left .zero ⟨ok, sum⟩ = l := ⟨_, rfl⟩
  have hl0' : l0.length = 28 := by rw [← hl0]; rfl
  have hset : (((l0.set 22 (.bool true)).set 23 (.int .u64 sm1)).set 8 (.int .i64 at1)).set 12 (.int .i64 lf1) = tk .zero hand ⟨1, at1, jb, c, hh⟩ lf1 .zero ⟨true, sm1⟩ := by rw [← hl0]; rfl
  obtain ⟨l1, hl1⟩ : ∃ l, tk .zero hand ⟨1, at1, jb, c, hh⟩ lf1 .zero ⟨true, sm1⟩ = l := ⟨_, rfl⟩
  rw [hl0, hl1]
  rw [hl1] at hset
  have c12l : l1[12]? = some (.int .i64 lf1) := by rw [← hl1]; rfl
  have hl1i := hide (show IsTk l1 from by rw [← hl1]; exact tk_is _ _ _ _ _ _)
  obtain ⟨W3, hW3⟩ : ∃ W3, ((w.alloc (.cells l0.toArray 79)).alloc (.cells tk0.toArray 79)).alloc (.cells [Value.int .i64 0, .int .i64 0, .int .i64 0, .int .u64 0, .int .u64 0, .bool false].toArray 46) = W3 := ⟨_, rfl⟩
  have sz3 : W3.heap.size = w.heap.size + 3 := by rw [← hW3]; simp
  have R0 : W3.rowIs w.heap.size 79 28 (lrow l0) := by rw [← hW3]; exact ((rowL_alloc w l0 _ hl0').alloc _).alloc _
  have R1 : W3.rowIs (w.heap.size + 1) 79 28 (lrow tk0) := by
    rw [← hW3]
    have := (rowL_alloc (w.alloc (.cells l0.toArray 79)) tk0 79 (n := 28) rfl).alloc (.cells [Value.int .i64 0, .int .i64 0, .int .i64 0, .int .u64 0, .int .u64 0, .bool false].toArray 46)
    rwa [World.size_alloc] at this
  have R2 : W3.rowIs (w.heap.size + 2) 46 6 (lrow [Value.int .i64 0, .int .i64 0, .int .i64 0, .int .u64 0, .int .u64 0, .bool false]) := by
    rw [← hW3]
    have := rowL_alloc ((w.alloc (.cells l0.toArray 79)).alloc (.cells tk0.toArray 79)) [Value.int .i64 0, .int .i64 0, .int .i64 0, .int .u64 0, .int .u64 0, .bool false] 46 (n := 6) rfl
    rwa [World.size_alloc, World.size_alloc] at this
  have G3 : w.grownBy W3 (some g) := by rw [← hW3]; exact grown_alloc (grown_alloc (grown_alloc (grown_refl _ _) _) _) _
  have HR3 := hide (show IsRow W3 g n cap f from hr.grown (grown_none (by rw [← hW3]; exact grown_alloc (grown_alloc (grown_alloc (grown_refl _ _) _) _) _) none) (by simp))
  have cell : ∀ i v, l0[i]? = some v → W3.cell? ⟨w.heap.size, i, none⟩ = some v := fun i v hv => by rw [R0.cell (i := i) (by have := (List.getElem?_eq_some_iff.1 hv).1; omega), lrow_of hv]
  have c6 := cell 6 (.int .i64 hand) (by rw [← hl0]; rfl)
  have c8 := cell 8 (.int .i64 at_) (by rw [← hl0]; rfl)
  have c11 := cell 11 (.int .u64 hh) (by rw [← hl0]; rfl)
  have g8 : l0[8]? = some (.int .i64 at_) := by rw [← hl0]; rfl
  have g12 : l0[12]? = some (.int .i64 left) := by rw [← hl0]; rfl
  have g23 : l0[23]? = some (.int .u64 sum) := by rw [← hl0]; rfl
  obtain ⟨dT, hdT1, hdT2⟩ := row79
  obtain ⟨dS, hdS1, hdS2⟩ := row46
  have HD := hide (And.intro hdT1 (And.intro hdT2 (And.intro hdS1 hdS2)))
  have HR0 := hide R0
  have HR1 := hide R1
  have HR2 := hide R2
  have HG3 := hide G3
  have HSET := hide hset
  have HL0 := hide hl0'
  have HG := hide (And.intro g8 (And.intro g12 g23))
  have H12 := hide c12l
  have a3 : IntKind.u64.wrap (sum + x.had) = sm1 := by rw [← hsm1]; exact wrap_u64 _
  clear hx hf' hr hw R0 R1 R2 G3 cell hset hl0' hl0 hl1 hdT1 hdT2 hdS1 hdS2 g8 g12 g23 c12l
  simp only [tk0] at hW3
  go_enter Try.func53, Try.ntmps53
  go_wp2_with (go_at_call 67; refine (DO.out _ HR3.out).mono ?_; rintro e w1 ⟨rfl, hr1, hg1⟩; rw [HX.out]; rw [HF.out] at hr1; simp only [Stp.val]; have sz1 := hg1.size; have HR4 := hide (HR0.out.of_block (hg1.block w.heap.size (by omega) (by simp; omega))); have HR5 := hide (HR1.out.of_block (hg1.block (w.heap.size + 1) (by omega) (by simp; omega))); have HR6 := hide (HR2.out.of_block (hg1.block (w.heap.size + 2) (by omega) (by simp; omega))); have HR1' := hide hr1; have HG1 := hide hg1; obtain ⟨u22, e22⟩ : ∃ u, w1.cell? ⟨w.heap.size, 22, none⟩ = some u := ⟨_, HR4.out.cell (by omega)⟩; have e23 : w1.cell? ⟨w.heap.size, 23, none⟩ = some (.int .u64 sum) := (by rw [HR4.out.cell (i := 23) (by omega), lrow_of HG.out.2.2]); have e8 : w1.cell? ⟨w.heap.size, 8, none⟩ = some (.int .i64 at_) := (by rw [HR4.out.cell (i := 8) (by omega), lrow_of HG.out.1]); have e12 : w1.cell? ⟨w.heap.size, 12, none⟩ = some (.int .i64 left) := (by rw [HR4.out.cell (i := 12) (by omega), lrow_of HG.out.2.1]); have f22 := HR4.out.frozen 22; have f23 := HR4.out.frozen 23; have f8 := HR4.out.frozen 8; have f12 := HR4.out.frozen 12; have l1w : w.heap.size < w1.heap.size := (by omega); clear hr1 hg1)
  obtain ⟨w2, hw2⟩ : ∃ w2, ((((w1.setCell ⟨w.heap.size, 22, none⟩ (.bool true)).setCell ⟨w.heap.size, 23, none⟩ (.int .u64 sm1)).setCell ⟨w.heap.size, 8, none⟩ (.int .i64 at1)).setCell ⟨w.heap.size, 12, none⟩ (.int .i64 lf1)) = w2 := ⟨_, rfl⟩
  have sz2 : w2.heap.size = w1.heap.size := by rw [← hw2]; simp
  have tt2 : Touch w1 w2 (fun k => k = w.heap.size) := by rw [← hw2]; exact (Touch.setCell (S := fun k => k = w.heap.size) (Touch.setCell (S := fun k => k = w.heap.size) (Touch.setCell (S := fun k => k = w.heap.size) (Touch.setCell (S := fun k => k = w.heap.size) (Touch.refl w1 _) ⟨w.heap.size, 22, none⟩ (.inl rfl) _) ⟨w.heap.size, 23, none⟩ (.inl rfl) _) ⟨w.heap.size, 8, none⟩ (.inl rfl) _) ⟨w.heap.size, 12, none⟩ (.inl rfl) _)
  have rA : (w2.alloc (.cells [Value.int .i64 x.hand, .int .i64 x.act, .int .i64 x.at_, .int .u64 x.had, .int .u64 x.put, .bool x.ok].toArray 46)).rangeAt w.heap.size 0 l1 := by
    have := rowIs.range (rowIs.setL (rowIs.setL (rowIs.setL (rowIs.setL HR4.out (i := 22) (by simp [HL0.out]) (.bool true)) (i := 23) (by simp [HL0.out]) (.int .u64 sm1)) (i := 8) (by simp [HL0.out]) (.int .i64 at1)) (i := 12) (by simp [HL0.out]) (.int .i64 lf1)) (by simp [HL0.out])
    rw [HSET.out, hw2] at this
    exact World.rangeAt_alloc this _
  have rB : (w2.alloc (.cells [Value.int .i64 x.hand, .int .i64 x.act, .int .i64 x.at_, .int .u64 x.had, .int .u64 x.put, .bool x.ok].toArray 46)).rangeAt w1.heap.size 0 [Value.int .i64 x.hand, .int .i64 x.act, .int .i64 x.at_, .int .u64 x.had, .int .u64 x.put, .bool x.ok] := by
    have := rowIs.range (rowL_alloc w2 [Value.int .i64 x.hand, .int .i64 x.act, .int .i64 x.at_, .int .u64 x.had, .int .u64 x.put, .bool x.ok] 46 (n := 6) rfl) rfl
    rwa [sz2] at this
  have tC : (w2.alloc (.cells [Value.int .i64 x.hand, .int .i64 x.act, .int .i64 x.at_, .int .u64 x.had, .int .u64 x.put, .bool x.ok].toArray 46)).there (w.heap.size + 1) 0 28 := rowIs.there ((HR5.out.of_block (tt2.block _ (by omega) (by omega))).alloc _) (by omega)
  have tD : (w2.alloc (.cells [Value.int .i64 x.hand, .int .i64 x.act, .int .i64 x.at_, .int .u64 x.had, .int .u64 x.put, .bool x.ok].toArray 46)).there (w.heap.size + 2) 0 6 := rowIs.there ((HR6.out.of_block (tt2.block _ (by omega) (by omega))).alloc _) (by omega)
  have rW : IsRow (w2.alloc (.cells [Value.int .i64 x.hand, .int .i64 x.act, .int .i64 x.at_, .int .u64 x.had, .int .u64 x.put, .bool x.ok].toArray 46)) g n cap f' := (HR1'.out.block (tt2.block g (by omega) (by omega))).alloc _
  have TW : Touch w (w2.alloc (.cells [Value.int .i64 x.hand, .int .i64 x.act, .int .i64 x.at_, .int .u64 x.had, .int .u64 x.put, .bool x.ok].toArray 46)) (fun k => k = g) := (((Touch.of_grown HG3.out).mono (S' := fun k => k = g) (fun k _ h => by simpa using h)).trans' (Touch.of_grown HG1.out) (fun k _ h => by simpa using h)).trans' (tt2.alloc _) (fun k hk h => absurd hk (by omega))
  have szA : (w2.alloc (.cells [Value.int .i64 x.hand, .int .i64 x.act, .int .i64 x.at_, .int .u64 x.had, .int .u64 x.put, .bool x.ok].toArray 46)).heap.size = w1.heap.size + 1 := by simp [sz2]
  rw [hw2]
  have HTW := hide TW
  have HRW := hide rW
  clear TW rW hw2
  obtain ⟨WA, hWA⟩ : ∃ W, (w2.alloc (.cells [Value.int .i64 x.hand, .int .i64 x.act, .int .i64 x.at_, .int .u64 x.had, .int .u64 x.put, .bool x.ok].toArray 46)) = W := ⟨_, rfl⟩
  rw [hWA] at rA rB tC tD szA HTW HRW
  have goA : (w2.alloc (.cells #[Value.int .i64 x.hand, .int .i64 x.act, .int .i64 x.at_, .int .u64 x.had, .int .u64 x.put, .bool x.ok] 46)) = WA := hWA
  simp only [goA]
  clear goA hWA
  refine RetN.region (ks := [(0, 36), (1, 37), (2, 38), (3, 39), (4, 40), (7, 6)]) (vals := fun i => match i with
      | 0 => .agg l1.toArray
      | 1 => .agg #[Value.int .i64 x.hand, .int .i64 x.act, .int .i64 x.at_, .int .u64 x.had, .int .u64 x.put, .bool x.ok]
      | 2 => .pointer (some ⟨w.heap.size, 12, none⟩)
      | 3 => .int .i64 lf1
      | _ => .bool (decide (lf1 ≤ 0))) (C := w.heap.size + 1) (E := w.heap.size + 2) (iC := 5) (iE := 6) (lt := l1) (ls := [Value.int .i64 x.hand, .int .i64 x.act, .int .i64 x.at_, .int .u64 x.had, .int .u64 x.put, .bool x.ok]) (by kernel_rfl) ?g ?b rfl (by omega) (by decide) ?dd hl1i.out.2 (by simp [Value.oneCell']) (by rw [hl1i.out.1]; exact tC) tD ?kinds ?fin
  case g =>
    intro i o ho
    have hi : i < 8 := by have := (Array.getElem?_eq_some_iff.1 ho).1; simpa using this
    match i, hi with
    | 0, _ | 1, _ | 2, _ | 3, _ | 4, _ | 5, _ | 6, _ | 7, _ => injection ho with ho; subst ho; rfl
  case b =>
    intro i o ho
    have hi : i < 8 := by have := (Array.getElem?_eq_some_iff.1 ho).1; simpa using this
    match i, hi with
    | 0, _ | 1, _ | 2, _ | 3, _ | 4, _ | 5, _ | 6, _ | 7, _ => injection ho with ho; subst ho; simp [Region.binds]
  case dd =>
    intro k hk
    have hk' : k < 41 := by
      simp [RetN.D] at hk
      omega
    simpa using hk'
  case kinds =>
    intro i o ho
    have hi : i < 8 := by have := (Array.getElem?_eq_some_iff.1 ho).1; simpa using this
    match i, hi with
    | 0, _ => injection ho with ho; subst ho; exact .inl ⟨36, _, rfl, rfl, fun L a w' hI hd => ex_load_row rfl (hI.fix 2 (Reg.notD rfl)) (rangeAt_block rA (hI.tch.block _ (by omega) (by omega))) HD.out.1 HD.out.2.1 (by rw [hl1i.out.1]; exact size79)⟩
    | 1, _ => injection ho with ho; subst ho; exact .inl ⟨37, _, rfl, rfl, fun L a w' hI hd => ex_load_row rfl (hI.fix 7 (Reg.notD rfl)) (rangeAt_block rB (hI.tch.block _ (by omega) (by omega))) HD.out.2.2.1 HD.out.2.2.2 size46⟩
    | 2, _ => injection ho with ho; subst ho; exact .inl ⟨38, _, rfl, rfl, fun L a w' hI hd => ex_field rfl (hI.fix 2 (Reg.notD rfl)) (field79 w' _)⟩
    | 3, _ => injection ho with ho; subst ho; exact .inl ⟨39, _, rfl, rfl, fun L a w' hI hd => ex_load rfl (hI.pure 2 _ _ rfl (hd ⟨2, .data⟩ (by simp) rfl)) (agg3 w') (by have := (rangeAt_block rA (hI.tch.block _ (by omega) (by omega))) 12 _ H12.out; simpa using this)⟩
    | 4, _ => injection ho with ho; subst ho; exact .inl ⟨40, _, rfl, rfl, fun L a w' hI hd => ex_leq rfl (hI.pure 3 _ _ rfl (hd ⟨3, .data⟩ (by simp) rfl))⟩
    | 5, _ => injection ho with ho; subst ho; exact .inr (.inl ⟨rfl, rfl, _, _, _, rfl, (by rw [hl1i.out.1]; exact size79), fun L a w' hI hd => ⟨hI.fix 4 (Reg.notD rfl), (hI.pure 0 _ _ rfl (hd ⟨0, .data⟩ (by simp) rfl))⟩⟩)
    | 6, _ => injection ho with ho; subst ho; exact .inr (.inr ⟨rfl, rfl, _, _, _, rfl, size46, fun L a w' hI hd => ⟨hI.fix 5 (Reg.notD rfl), (hI.pure 1 _ _ rfl (hd ⟨1, .data⟩ (by simp) rfl))⟩⟩)
    | 7, _ => injection ho with ho; subst ho; exact .inl ⟨6, _, rfl, rfl, fun L a w' hI hd => ex_assign rfl (hI.pure 4 _ _ rfl (hd ⟨4, .data⟩ (by simp) rfl))⟩
  case fin =>
    intro L a' w' hI hall
    rename_i K2 hK2
    refine hK2 _ _ ?_
    have rC := hI.sC (hall 5 (by decide))
    have rD := hI.sE (hall 6 (by decide))
    have pC : a'.eval (.tmp 4) = .pointer (some ⟨w.heap.size + 1, 0, none⟩) := hI.fix 4 (Reg.notD rfl)
    have pD : a'.eval (.tmp 5) = .pointer (some ⟨w.heap.size + 2, 0, none⟩) := hI.fix 5 (Reg.notD rfl)
    have pe : a'.eval (.tmp 6) = .bool (decide (lf1 ≤ 0)) := hI.pure 7 6 _ rfl (hall 7 (by decide))
    have tch := hI.tch
    have hdf : a'.defers = [] := hI.df
    have hT := run_loadVar_mid (P := Try.prog) w' (w.heap.size + 1) 0 _ l1 dT rC HD.out.1 HD.out.2.1 (by rw [hl1i.out.1]; exact size79)
    have hS := run_loadVar_mid (P := Try.prog) w' (w.heap.size + 2) 0 _ _ dS rD HD.out.2.2.1 HD.out.2.2.2 size46
    have hres := results_cct (Q := Try.prog) (fn := Try.f53) (tmps := a'.tmps) (t := 4) (t' := 5) (t'' := 6) (W := w') (by rfl) pC hT pD hS
    rw [show a'.tmps.getD 6 undef = .bool (decide (lf1 ≤ 0)) from pe] at hres
    go_wp2
    refine bodyPost_ret (v := .tuple #[.agg l1.toArray, x.val, .bool (decide (lf1 ≤ 0))]) hres hdf ⟨rfl, HRW.out.block (tch.block g HRW.out.lt (by omega)), ?_⟩
    have := HTW.out.trans' tch (fun k hk h => absurd hk (by omega))
    exact ⟨this.os, this.tape, this.output, this.size, fun k hk hn => this.block k hk (by simpa using hn)⟩
end Go.Proofs.Ytdbiphibdaghkaa
/-
  The statement's own reference of tasks of several steps: wrong.
-/
namespace Go.Proofs.Ytdbiphibdaghkaa
open Go.RowKit
set_option linter.unusedVariables false
set_option linter.unusedSimpArgs false
set_option linter.unnecessarySimpa false
set_option maxRecDepth 20000

variable {w : World} {aoh aos : Option Addr} {caph caps : Nat} {P : Par} {most : Int}

theorem build77 {ev : Operand → Value} {o : Oper} {w : World} (ho : o.op = .build 77 #[]) : (execOp ev o).run Try.prog w = .ok (.value (.agg #[.int .u64 0, .int .u64 0, .int .u64 0, .int .u64 0])) w := by
  simp [execOp, ho, go_sem]
theorem callStartW (args : Array Value) (w : World) : (callFunc 52 args).run Try.prog w = .ok (.enter 52 args) w := by
  simp [go_sem]
theorem startW_any (w : World) (k : Int) (j : Jb) : ∃ cs : List Value, Calls Try.prog 52 #[Shp.zero.val, .int .i64 k, j.val, kept0] w fun e w' => e = .returned (.tuple #[.agg cs.toArray, .int .i64 (kWk.err j)]) ∧ Below w.heap.size w w' := by
  by_cases h : kWk.err j = 0
  · rw [h]; exact ⟨_, startW_ok w .zero k j h⟩
  · exact ⟨_, startW_err w .zero k j h⟩
theorem startW_all (k : Int) (j : Jb) : ∃ cs : List Value, ∀ w : World, Calls Try.prog 52 #[Shp.zero.val, .int .i64 k, j.val, kept0] w fun e w' => e = .returned (.tuple #[.agg cs.toArray, .int .i64 (kWk.err j)]) ∧ Below w.heap.size w w' := by
  by_cases h : kWk.err j = 0
  · rw [h]; exact ⟨_, fun w => startW_ok w .zero k j h⟩
  · exact ⟨_, fun w => startW_err w .zero k j h⟩

set_option maxHeartbeats 8000000 in
theorem wrong_fine (SH : SeesH w w.heap.size aoh P.nh P.jn P.jb) (hl : ¬ LongHands P.nh P.jn) (hs : P.ns ≤ 65536) (hm0 : 0 ≤ most) (hm : most ≤ 65536) :
    Calls Try.prog 51 #[Shp.zero.val, .slice aoh P.nh caph, .slice aos P.ns caps, .int .i64 most] w fun e w' => Below w.heap.size w w' ∧ ((AllOk kWk P ∧ e = .returned (.int .i64 0)) ∨ ∃ er, FirstErr kWk P er ∧ e = .returned (.int .i64 er)) := by
  have hnh : P.nh ≤ 8 := by rcases Nat.lt_or_ge 8 P.nh with l | l; exact absurd (.inl l) hl; exact l
  have hjn : ∀ i, i < P.nh → P.jn i ≤ 256 := fun i hi => by rcases Nat.lt_or_ge 256 (P.jn i) with l | l; exact absurd (.inr ⟨i, hi, l⟩) hl; exact l
  have HSH := hide SH
  have HL := hide hl
  have HJN := hide hjn
  obtain ⟨W1, hW1⟩ : ∃ W1, w.alloc (.cells #[.int .i64 0, .int .i64 0, .int .i64 0, .int .i64 0, .int .i64 0, .int .i64 0] 42) = W1 := ⟨_, rfl⟩
  have b1 : Below w.heap.size w W1 := by rw [← hW1]; exact (Below.refl _ w).alloc (Nat.le_refl _) _
  have sz1 : W1.heap.size = w.heap.size + 1 := by rw [← hW1]; simp
  have R1 := hide (show W1.rangeAt w.heap.size 0 [Value.int .i64 0, .int .i64 0, .int .i64 0, .int .i64 0, .int .i64 0, .int .i64 0] from by rw [← hW1]; exact rowIs.range (rowL_alloc w [Value.int .i64 0, .int .i64 0, .int .i64 0, .int .i64 0, .int .i64 0, .int .i64 0] 42 (n := 6) rfl) rfl)
  have BW := hide b1
  clear SH hl hjn b1
  simp only [Shp.val, Shp.zero]
  go_enter Try.func51, Try.ntmps51
  go_wp2_with (go_at_call 33; refine (fits_fine (HSH.out.below BW.out (Nat.le_refl _)) HL.out hs most hm 0 (.inl ⟨hm0, rfl⟩)).mono ?_; rintro e w' ⟨rfl, hw⟩; obtain rfl := hw.symm)
  go_loopw [9, 10] (fun e i wr => ∃ (k : Nat) (er : Int), k ≤ P.nh ∧ i = .int .i64 k ∧ Below W1.heap.size W1 wr ∧ e = .int .i64 er ∧ ((er = 0 ∧ ∀ h, h < k → ∀ j, j < P.jn h → kWk.err (P.jb h j) = 0) ∨ FirstErr kWk P er)) (fun _ i _ => P.nh - (intOf i).toNat)
  case atStart => exact ⟨0, 0, Nat.zero_le _, rfl, Below.refl _ _, rfl, .inl ⟨rfl, fun h hh => absurd hh (Nat.not_lt_zero h)⟩⟩
  case round =>
    obtain ⟨wo, rfl⟩ : ∃ x, x = wr := ⟨_, rfl⟩
    obtain ⟨k, er, hk, rfl, hb, rfl, hcase⟩ := hrel
    have HB := hide hb
    clear hb
    rcases hcase with ⟨rfl, hall⟩ | hfe
    · have HALL := hide hall
      clear hall
      by_cases hlt : k < P.nh
      · have hkn : (k : Int) < (P.nh : Int) := by omega
        obtain ⟨b, off, ao', cap', hao, hbl, hcc, hjj⟩ := (HSH.out.below (BW.out.trans (HB.out.mono (by omega))) (Nat.le_refl _)) k hlt
        subst hao
        have hjk := HJN.out k hlt
        have HJJ := hide hjj
        clear hjj
        go_wp2_with fail
        go_loopw [9, 11] (fun e i wr => ∃ (q : Nat) (er : Int), q ≤ P.jn k ∧ i = .int .i64 q ∧ Below W1.heap.size W1 wr ∧ e = .int .i64 er ∧ ((er = 0 ∧ ∀ j, j < q → kWk.err (P.jb k j) = 0) ∨ (FirstErr kWk P er ∧ ¬ er = 0))) (fun _ i _ => P.jn k - (intOf i).toNat)
        case atStart => exact ⟨0, 0, Nat.zero_le _, rfl, HB.out, rfl, .inl ⟨rfl, fun j hj => absurd hj (Nat.not_lt_zero j)⟩⟩
        case round =>
          obtain ⟨q, er, hq, rfl, hb2, rfl, hcase2⟩ := hrel
          have HB2' := hide hb2
          have hccr := (hb2.cell (p := ⟨b, off + k, none⟩) (by show b < _; omega)).trans ((HB.out.cell (p := ⟨b, off + k, none⟩) (by show b < _; omega)).symm.trans hcc)
          rcases hcase2 with ⟨rfl, hall2⟩ | ⟨hfe2, hne2⟩
          · have HALL2 := hide hall2
            clear hall2
            by_cases hlq : q < P.jn k
            · have hqn : (q : Int) < (P.jn k : Int) := by omega
              obtain ⟨b', off', hao', hbl', hc'⟩ := HJJ.out q hlq
              subst hao'
              obtain ⟨cs, hcs⟩ := startW_all k (P.jb k q)
              have ST := hide hcs
              obtain ⟨ev, hev⟩ : ∃ ev, kWk.err (P.jb k q) = ev := ⟨_, rfl⟩
              rw [hev] at ST
              have HEV := hide hev
              have lwr : W1.heap.size ≤ wr.heap.size := hb2.size
              obtain ⟨jb, hjb⟩ : ∃ jb, P.jb k q = jb := ⟨_, rfl⟩
              rw [hjb] at hc' ST
              obtain ⟨jk, ja, jbb, jc, jh⟩ := jb
              simp only [Shp.val, Shp.zero, Jb.val, kept0] at ST
              have W0 : Below wr.heap.size wr wr.drew ∧ wr.rangeAt w.heap.size 0 [Value.int .i64 0, .int .i64 0, .int .i64 0, .int .i64 0, .int .i64 0, .int .i64 0] ∧ wr.cell? ⟨b, off + k * 1, none⟩ = some (.slice (some ⟨b', off', none⟩) (P.jn k) cap') ∧ wr.rangeAt b' (off' + q * 5) [.int .i64 jk, .int .i64 ja, .int .i64 jbb, .int .i64 jc, .int .u64 jh] := by
                refine ⟨(Below.refl _ _).drew, rangeAt_block R1.out (hb2.block _ (by omega)), by rw [Nat.mul_one]; exact hccr, fun j v hv => ?_⟩
                have hj : j < 5 := (List.getElem?_eq_some_iff.1 hv).1
                rw [show wr.cell? ⟨b', off' + q * 5 + j, none⟩ = wo.cell? ⟨b', off' + q * 5 + j, none⟩ from (hb2.cell (p := ⟨b', off' + q * 5 + j, none⟩) (by show b' < _; omega)).trans (HB.out.cell (p := ⟨b', off' + q * 5 + j, none⟩) (by show b' < _; omega)).symm, hc' j hj]
                match j, hj with
                | 0, _ | 1, _ | 2, _ | 3, _ | 4, _ => exact congrArg some (Option.some.inj hv)
              have HW0 := hide W0
              obtain ⟨dJ, hdJ⟩ := row54
              obtain ⟨dS, hdS⟩ := row42
              have DJ := hide hdJ
              have DS := hide hdS
              clear W0 hcs hev hjb hc' hb2 hdJ hdS
              go_wp2_with fail
              ·
                refine Reg.region (t := (⟨[(0, 40), (1, 41), (2, 42), (3, 43), (4, 44), (5, 45), (6, 46), (7, 47), (8, 48), (9, 49), (11, 39), (12, 51), (13, 52), (14, 9)],
                    fun i => match i with
                      | 0 => .agg #[.int .i64 0, .int .i64 0, .int .i64 0, .int .i64 0, .int .i64 0, .int .i64 0]
                      | 2 => .slice (some ⟨b, off, none⟩) P.nh caph
                      | 4 => .pointer (some ⟨b, off + k * 1, none⟩)
                      | 5 => .slice (some ⟨b', off', none⟩) (P.jn k) cap'
                      | 6 => .int .i64 (q : Int)
                      | 7 => .pointer (some ⟨b', off' + q * 5, none⟩)
                      | 8 => .agg #[.int .i64 jk, .int .i64 ja, .int .i64 jbb, .int .i64 jc, .int .u64 jh]
                      | 9 => .agg #[.int .u64 0, .int .u64 0, .int .u64 0, .int .u64 0]
                      | 11 => .tuple #[.agg cs.toArray, .int .i64 ev]
                      | 12 => .agg cs.toArray
                      | 13 => .int .i64 ev
                      | 14 => .int .i64 ev
                      | _ => .int .i64 (k : Int),
                    10, 50, .tuple #[.agg cs.toArray, .int .i64 ev], [], fun _ => (3, []), [], fun _ => []⟩ : Reg.TabL).tab)
                  (WI := fun _ w' => Below wr.heap.size wr w' ∧ w'.rangeAt w.heap.size 0 [Value.int .i64 0, .int .i64 0, .int .i64 0, .int .i64 0, .int .i64 0, .int .i64 0] ∧ w'.cell? ⟨b, off + k * 1, none⟩ = some (.slice (some ⟨b', off', none⟩) (P.jn k) cap') ∧ w'.rangeAt b' (off' + q * 5) [.int .i64 jk, .int .i64 ja, .int .i64 jbb, .int .i64 jc, .int .u64 jh])
                  (gw := w.heap.size) (by kernel_rfl) (Reg.TabL.ok _ rfl (fun i j hm => by simp at hm)) ?g8 ?b8 (by omega) ?alo ?sto ?dd HW0.out ?kinds ?fin
                case g8 =>
                  intro i o ho
                  have hi : i < 15 := by have := (Array.getElem?_eq_some_iff.1 ho).1; simpa using this
                  match i, hi with
                  | 0, _ | 1, _ | 2, _ | 3, _ | 4, _ | 5, _ | 6, _ | 7, _ | 8, _ | 9, _ | 10, _ | 11, _ | 12, _ | 13, _ | 14, _ => injection ho with ho; subst ho; rfl
                case b8 =>
                  intro i o ho
                  have hi : i < 15 := by have := (Array.getElem?_eq_some_iff.1 ho).1; simpa using this
                  match i, hi with
                  | 0, _ | 1, _ | 2, _ | 3, _ | 4, _ | 5, _ | 6, _ | 7, _ | 8, _ | 9, _ | 10, _ | 11, _ | 12, _ | 13, _ | 14, _ => injection ho with ho; subst ho; simp [Region.binds]
                case alo =>
                  rintro _ w' o ⟨h0, h1, h2, h3⟩
                  exact ⟨h0.alloc h0.size _, World.rangeAt_alloc h1 o, (World.cell?_alloc_lt _ _ _ (World.block_lt_of_cell? _ _ h2)).trans h2, World.rangeAt_alloc h3 o⟩
                case sto =>
                  rintro _ w' x vs ⟨h0, h1, h2, h3⟩ hk
                  have tt := touch_setCells x vs 0 w'
                  exact ⟨h0.trans (tt.below (fun y hy => by omega) h0.size), rangeAt_block h1 (tt.block _ (World.block_lt_of_cell? _ _ (h1 0 _ rfl)) (by show w.heap.size ≠ x; omega)), (World.cell?_of_block (a := ⟨b, off + k * 1, none⟩) (tt.block _ (World.block_lt_of_cell? _ _ h2) (by show b ≠ x; omega))).trans h2, rangeAt_block h3 (tt.block _ (World.block_lt_of_cell? _ _ (h3 0 _ rfl)) (by show b' ≠ x; omega))⟩
                case dd =>
                  intro x hx
                  have hx' : x < 54 := by
                    simp [Reg.TabL.tab] at hx
                    omega
                  simpa using hx'
                case kinds =>
                  have hWb : ∀ w1 w2 : World, (Below wr.heap.size wr w1 ∧ w1.rangeAt w.heap.size 0 [Value.int .i64 0, .int .i64 0, .int .i64 0, .int .i64 0, .int .i64 0, .int .i64 0] ∧ w1.cell? ⟨b, off + k * 1, none⟩ = some (.slice (some ⟨b', off', none⟩) (P.jn k) cap') ∧ w1.rangeAt b' (off' + q * 5) [.int .i64 jk, .int .i64 ja, .int .i64 jbb, .int .i64 jc, .int .u64 jh]) → Below w1.heap.size w1 w2 → (Below wr.heap.size wr w2 ∧ w2.rangeAt w.heap.size 0 [Value.int .i64 0, .int .i64 0, .int .i64 0, .int .i64 0, .int .i64 0, .int .i64 0] ∧ w2.cell? ⟨b, off + k * 1, none⟩ = some (.slice (some ⟨b', off', none⟩) (P.jn k) cap') ∧ w2.rangeAt b' (off' + q * 5) [.int .i64 jk, .int .i64 ja, .int .i64 jbb, .int .i64 jc, .int .u64 jh]) := by
                    rintro w1 w2 ⟨h0, h1, h2, h3⟩ hb
                    exact ⟨h0.trans (hb.mono h0.size), rangeAt_block h1 (hb.block _ (World.block_lt_of_cell? _ _ (h1 0 _ rfl))), (hb.cell (p := ⟨b, off + k * 1, none⟩) (World.block_lt_of_cell? _ _ h2)).trans h2, rangeAt_block h3 (hb.block _ (World.block_lt_of_cell? _ _ (h3 0 _ rfl)))⟩
                  intro i o ho
                  have hi : i < 15 := by have := (Array.getElem?_eq_some_iff.1 ho).1; simpa using this
                  match i, hi with
                  | 0, _ => injection ho with ho; subst ho; exact .inl ⟨40, _, rfl, rfl, fun L a w' bk hI hd => ex_load_row rfl (hI.fix 4 (Reg.notD rfl)) hI.world.2.1 DS.out.1 DS.out.2 size42⟩
                  | 1, _ => injection ho with ho; subst ho; exact .inl ⟨41, _, rfl, rfl, fun L a w' bk hI hd => ex_move rfl (hI.fix 10 (Reg.notD rfl))⟩
                  | 2, _ => injection ho with ho; subst ho; exact .inl ⟨42, _, rfl, rfl, fun L a w' bk hI hd => ex_move rfl (hI.fix 1 (Reg.notD rfl))⟩
                  | 3, _ => injection ho with ho; subst ho; exact .inl ⟨43, _, rfl, rfl, fun L a w' bk hI hd => ex_move rfl (hI.fix 10 (Reg.notD rfl))⟩
                  | 4, _ => injection ho with ho; subst ho; exact .inl ⟨44, _, rfl, rfl, fun L a w' bk hI hd => ex_index rfl (hI.pure 2 _ _ rfl (hd ⟨2, .data⟩ (by simp) rfl)) (hI.pure 3 _ _ rfl (hd ⟨3, .data⟩ (by simp) rfl)) hlt Try.underlying23 sz52⟩
                  | 5, _ => injection ho with ho; subst ho; exact .inl ⟨45, _, rfl, rfl, fun L a w' bk hI hd => ex_load rfl (hI.pure 4 _ _ rfl (hd ⟨4, .data⟩ (by simp) rfl)) (agg_no w').2.2.1 hI.world.2.2.1⟩
                  | 6, _ => injection ho with ho; subst ho; exact .inl ⟨46, _, rfl, rfl, fun L a w' bk hI hd => ex_move rfl (hI.fix 11 (Reg.notD rfl))⟩
                  | 7, _ => injection ho with ho; subst ho; exact .inl ⟨47, _, rfl, rfl, fun L a w' bk hI hd => ex_index rfl (hI.pure 5 _ _ rfl (hd ⟨5, .data⟩ (by simp) rfl)) (hI.pure 6 _ _ rfl (hd ⟨6, .data⟩ (by simp) rfl)) hlq Try.underlying52 sz54⟩
                  | 8, _ => injection ho with ho; subst ho; exact .inl ⟨48, _, rfl, rfl, fun L a w' bk hI hd => ex_load_row rfl (hI.pure 7 _ _ rfl (hd ⟨7, .data⟩ (by simp) rfl)) hI.world.2.2.2 DJ.out.1 DJ.out.2 size54⟩
                  | 9, _ => injection ho with ho; subst ho; exact .inl ⟨49, _, rfl, rfl, fun L a w' bk hI hd => build77 rfl⟩
                  | 10, _ => injection ho with ho; subst ho; exact .inr (.inl ⟨rfl, rfl, fun L a w' bk K hI hL hd hk => wp_call (f := 52) (call4 rfl (hI.pure 0 _ _ rfl (hd ⟨0, .data⟩ (by simp) rfl)) (hI.pure 1 _ _ rfl (hd ⟨1, .data⟩ (by simp) rfl)) (hI.pure 8 _ _ rfl (hd ⟨8, .data⟩ (by simp) rfl)) (hI.pure 9 _ _ rfl (hd ⟨9, .data⟩ (by simp) rfl)) rfl (callStartW _ _)) ((ST.out w').mono (fun e w'' ⟨he, hb⟩ => ⟨_, he, hk w'' (hWb w' w'' hI.world hb) (Touch.of_below hb _)⟩))⟩)
                  | 11, _ => injection ho with ho; subst ho; exact .inl ⟨39, _, rfl, rfl, fun L a w' bk hI hd => ex_move rfl (hI.call (hd ⟨10, .data⟩ (by simp) rfl))⟩
                  | 12, _ => injection ho with ho; subst ho; exact .inl ⟨51, _, rfl, rfl, fun L a w' bk hI hd => ex_extract rfl (hI.pure 11 _ _ rfl (hd ⟨11, .data⟩ (by simp) rfl)) rfl⟩
                  | 13, _ => injection ho with ho; subst ho; exact .inl ⟨52, _, rfl, rfl, fun L a w' bk hI hd => ex_extract rfl (hI.pure 11 _ _ rfl (hd ⟨11, .data⟩ (by simp) rfl)) rfl⟩
                  | 14, _ => injection ho with ho; subst ho; exact .inl ⟨9, _, rfl, rfl, fun L a w' bk hI hd => ex_assign rfl (hI.pure 13 _ _ rfl (hd ⟨13, .data⟩ (by simp) rfl))⟩
                case fin =>
                  intro L a' w' bk hI hall
                  have ea := act_all a' 54 (by rw [hI.sz]; rfl) hI.df
                  simp only [List.range, List.range.loop, List.map] at ea
                  rw [hI.fix 0 (Reg.notD rfl), hI.fix 1 (Reg.notD rfl), hI.fix 2 (Reg.notD rfl), hI.fix 3 (Reg.notD rfl), hI.fix 4 (Reg.notD rfl), hI.fix 5 (Reg.notD rfl), hI.fix 6 (Reg.notD rfl), hI.fix 7 (Reg.notD rfl), hI.fix 8 (Reg.notD rfl), hI.fix 10 (Reg.notD rfl), hI.fix 11 (Reg.notD rfl), hI.fix 12 (Reg.notD rfl), hI.fix 13 (Reg.notD rfl), hI.fix 14 (Reg.notD rfl), hI.fix 15 (Reg.notD rfl), hI.fix 16 (Reg.notD rfl), hI.fix 17 (Reg.notD rfl), hI.fix 18 (Reg.notD rfl), hI.fix 19 (Reg.notD rfl), hI.fix 20 (Reg.notD rfl), hI.fix 21 (Reg.notD rfl), hI.fix 22 (Reg.notD rfl), hI.fix 23 (Reg.notD rfl), hI.fix 24 (Reg.notD rfl), hI.fix 25 (Reg.notD rfl), hI.fix 26 (Reg.notD rfl), hI.fix 27 (Reg.notD rfl), hI.fix 28 (Reg.notD rfl), hI.fix 29 (Reg.notD rfl), hI.fix 30 (Reg.notD rfl), hI.fix 31 (Reg.notD rfl), hI.fix 32 (Reg.notD rfl), hI.fix 33 (Reg.notD rfl), hI.fix 34 (Reg.notD rfl), hI.fix 35 (Reg.notD rfl), hI.fix 36 (Reg.notD rfl), hI.fix 37 (Reg.notD rfl), hI.fix 38 (Reg.notD rfl), hI.fix 53 (Reg.notD rfl)] at ea
                  have p9 := hI.pure 14 9 _ rfl (hall 14 (by decide))
                  have hbx := hI.world.1
                  rw [p9] at ea
                  clear hI hall p9
                  generalize a'.eval (.tmp 39) = u39 at ea
                  generalize a'.eval (.tmp 40) = u40 at ea
                  generalize a'.eval (.tmp 41) = u41 at ea
                  generalize a'.eval (.tmp 42) = u42 at ea
                  generalize a'.eval (.tmp 43) = u43 at ea
                  generalize a'.eval (.tmp 44) = u44 at ea
                  generalize a'.eval (.tmp 45) = u45 at ea
                  generalize a'.eval (.tmp 46) = u46 at ea
                  generalize a'.eval (.tmp 47) = u47 at ea
                  generalize a'.eval (.tmp 48) = u48 at ea
                  generalize a'.eval (.tmp 49) = u49 at ea
                  generalize a'.eval (.tmp 50) = u50 at ea
                  generalize a'.eval (.tmp 51) = u51 at ea
                  generalize a'.eval (.tmp 52) = u52 at ea
                  simp only [show ∀ (ts : Array Value) (ds) (i : Nat), (Act.mk ts ds).eval (.tmp i) = ts.getD i undef from fun _ _ _ => rfl] at ea
                  simp at ea
                  subst ea
                  go_wp2_with fail
                  go_roundw
                  case rel =>
                    refine ⟨q + 1, ev, by omega, by go_num, HB2'.out.trans (hbx.mono HB2'.out.size), rfl, ?_⟩
                    by_cases h0 : ev = 0
                    · exact .inl ⟨h0, fun j hj => by rcases Nat.lt_or_ge j q with l | l; exact HALL2.out j l; obtain rfl : j = q := (by omega); rw [HEV.out, h0]⟩
                    · exact .inr ⟨⟨k, q, hlt, hlq, HEV.out, h0, HALL.out, HALL2.out⟩, h0⟩
                  case measure => simp [intOf]; omega
            · have hqn : ¬ (q : Int) < (P.jn k : Int) := by omega
              go_wp2_with fail
              go_roundw
              case rel => exact ⟨k + 1, 0, by omega, by go_num, HB2'.out, rfl, .inl ⟨rfl, fun h hh j hj => by rcases Nat.lt_or_ge h k with l | l; exact HALL.out h l j hj; obtain rfl : h = k := (by omega); exact HALL2.out j (by omega)⟩⟩
              case measure => simp [intOf]; omega
          · have HFE := hide hfe2
            clear hfe2
            by_cases hlq : q < P.jn k
            · have hqn : (q : Int) < (P.jn k : Int) := by omega
              go_wp2_with fail
              go_roundw
              case rel => exact ⟨k + 1, er, by omega, by go_num, HB2'.out, rfl, .inr HFE.out⟩
              case measure => simp [intOf]; omega
            · have hqn : ¬ (q : Int) < (P.jn k : Int) := by omega
              go_wp2_with fail
              go_roundw
              case rel => exact ⟨k + 1, er, by omega, by go_num, HB2'.out, rfl, .inr HFE.out⟩
              case measure => simp [intOf]; omega
      · have hkn : ¬ (k : Int) < (P.nh : Int) := by omega
        go_wp2_with fail
        go_ret
        exact ⟨BW.out.trans (HB.out.mono (by omega)), .inl ⟨fun h hh j hj => HALL.out h (by omega) j hj, rfl⟩⟩
    · have hne : ¬ er = 0 := by obtain ⟨_, _, _, _, _, h, _⟩ := hfe; exact h
      have HFE := hide hfe
      clear hfe
      by_cases hlt : k < P.nh
      · have hkn : (k : Int) < (P.nh : Int) := by omega
        go_wp2_with fail
        go_ret
        exact ⟨BW.out.trans (HB.out.mono (by omega)), .inr ⟨er, HFE.out, rfl⟩⟩
      · have hkn : ¬ (k : Int) < (P.nh : Int) := by omega
        go_wp2_with fail
        go_ret
        exact ⟨BW.out.trans (HB.out.mono (by omega)), .inr ⟨er, HFE.out, rfl⟩⟩
set_option maxHeartbeats 4000000 in
theorem wrong_fits (er : Int) (her : er ≠ 0) (h : ∀ w' : World, Below w.heap.size w w' → Calls Try.prog 33 #[.slice aoh P.nh caph, .slice aos P.ns caps, .int .i64 most] w' fun e w'' => e = .returned (.int .i64 er) ∧ w'' = w') :
    Calls Try.prog 51 #[Shp.zero.val, .slice aoh P.nh caph, .slice aos P.ns caps, .int .i64 most] w fun e w' => Below w.heap.size w w' ∧ e = .returned (.int .i64 er) := by
  have her' : ¬ er = 0 := her
  have HH := hide (h _ ((Below.refl _ w).alloc (Nat.le_refl _) (.cells #[.int .i64 0, .int .i64 0, .int .i64 0, .int .i64 0, .int .i64 0, .int .i64 0] 42)))
  clear h her
  simp only [Shp.val, Shp.zero]
  go_enter Try.func51, Try.ntmps51
  go_wp2_with (go_at_call 33; refine HH.out.mono ?_; rintro e w' ⟨rfl, hw⟩; obtain rfl := hw.symm)
  go_loopw [9, 10] (fun e i wr => ∃ k : Nat, k ≤ P.nh ∧ e = .int .i64 er ∧ i = .int .i64 k ∧ wr = w.alloc (.cells #[.int .i64 0, .int .i64 0, .int .i64 0, .int .i64 0, .int .i64 0, .int .i64 0] 42)) (fun _ _ _ => 0)
  case atStart => exact ⟨0, Nat.zero_le _, rfl, rfl, rfl⟩
  case round =>
    obtain ⟨k, hk, rfl, rfl, rfl⟩ := hrel
    by_cases hlt : k < P.nh
    · have hkn : (k : Int) < (P.nh : Int) := by omega
      go_wp2_with fail
      go_ret
      exact ⟨(Below.refl _ w).alloc (Nat.le_refl _) _, rfl⟩
    · have hkn : ¬ (k : Int) < (P.nh : Int) := by omega
      go_wp2_with fail
      go_ret
      exact ⟨(Below.refl _ w).alloc (Nat.le_refl _) _, rfl⟩
end Go.Proofs.Ytdbiphibdaghkaa
/-
  The statement's own reference of tasks of several steps: ran, where it refuses.
-/
namespace Go.Proofs.Ytdbiphibdaghkaa
open Go.RowKit
set_option linter.unusedVariables false
set_option linter.unusedSimpArgs false
set_option linter.unnecessarySimpa false
set_option maxRecDepth 20000

/-- What wrong tells, whatever it is given. -/
def WrongB (w : World) (P : Par) (most : Int) (e : Ending) (w' : World) : Prop :=
  Below w.heap.size w w' ∧ ((Fine P most ∧ AllOk kWk P ∧ e = .returned (.int .i64 0)) ∨ ∃ er, ErrOf kWk P most er ∧ e = .returned (.int .i64 er))

variable {w : World} {ao aoh aos : Option Addr} {cap caph caps : Nat} {P : Par} {most : Int}

theorem wrong_all (hn : P.n ≤ 4096) (SH : SeesH w w.heap.size aoh P.nh P.jn P.jb) (hn63 : P.nh ≤ 9223372036854775807) :
    Calls Try.prog 51 #[Shp.zero.val, .slice aoh P.nh caph, .slice aos P.ns caps, .int .i64 most] w (WrongB w P most) := by
  by_cases h2 : LongHands P.nh P.jn ∨ 65536 < P.ns ∨ 65536 < most
  · exact (wrong_fits 1 (by decide) (fun w' hb => fits_long (SH.below hb (Nat.le_refl _)) hn63 most h2)).mono fun e w' ⟨hb, he⟩ => ⟨hb, .inr ⟨1, .inr (.inl ⟨hn, h2, rfl⟩), he⟩⟩
  · have hl : ¬ LongHands P.nh P.jn := fun h => h2 (.inl h)
    have hs : P.ns ≤ 65536 := by rcases Nat.lt_or_ge 65536 P.ns with l | l; exact absurd (.inr (.inl l)) h2; exact l
    have hm : most ≤ 65536 := by rcases Int.lt_or_le 65536 most with l | l; exact absurd (.inr (.inr l)) h2; exact l
    by_cases h3 : most < 0
    · exact (wrong_fits 2 (by decide) (fun w' hb => fits_fine (SH.below hb (Nat.le_refl _)) hl hs most hm 2 (.inr ⟨h3, rfl⟩))).mono fun e w' ⟨hb, he⟩ => ⟨hb, .inr ⟨2, .inr (.inr (.inl ⟨hn, hl, hs, h3, rfl⟩)), he⟩⟩
    · have hF : Fine P most := ⟨hn, hl, hs, by omega, hm⟩
      refine (wrong_fine SH hl hs (by omega) hm).mono fun e w' ⟨hb, hc⟩ => ⟨hb, ?_⟩
      rcases hc with ⟨hok, he⟩ | ⟨er, hfe, he⟩
      · exact .inl ⟨hF, hok, he⟩
      · exact .inr ⟨er, .inr (.inr (.inr ⟨hF, hfe⟩)), he⟩

set_option maxHeartbeats 4000000 in
theorem ran_err (hn : P.n ≤ 4096) (SH : SeesH w w.heap.size aoh P.nh P.jn P.jb) (hn63 : P.nh ≤ 9223372036854775807) {er : Int} (he : ErrOf kWk P most er) :
    Calls Try.prog 16 #[Shp.zero.val, .slice ao P.n cap, .slice aoh P.nh caph, .slice aos P.ns caps, .int .i64 most] w fun e w' => e = .returned (errVal er) ∧ Below w.heap.size w w' := by
  have her' : ¬ er = 0 := he.ne
  obtain ⟨W2, hW2⟩ : ∃ W2, (w.alloc (.cells #[.int .i64 0, .int .i64 0, .int .i64 0, .int .i64 0, .int .i64 0, .int .i64 0] 42)).alloc (.cells #[.slice none 0 0, .slice none 0 0, .bool false] 28) = W2 := ⟨_, rfl⟩
  have b2 : Below w.heap.size w W2 := by rw [← hW2]; exact ((Below.refl _ w).alloc (Nat.le_refl _) _).alloc (by simp) _
  have sz2 : W2.heap.size = w.heap.size + 2 := by rw [← hW2]; simp
  have R1 : W2.rowIs w.heap.size 42 6 (lrow [Value.int .i64 0, .int .i64 0, .int .i64 0, .int .i64 0, .int .i64 0, .int .i64 0]) := by rw [← hW2]; exact (rowL_alloc w [Value.int .i64 0, .int .i64 0, .int .i64 0, .int .i64 0, .int .i64 0, .int .i64 0] _ rfl).alloc _
  have R2 := hide (show W2.rowIs (w.heap.size + 1) 28 3 (lrow [.slice none 0 0, .slice none 0 0, .bool false]) from by rw [← hW2]; have := rowL_alloc (w.alloc (.cells #[.int .i64 0, .int .i64 0, .int .i64 0, .int .i64 0, .int .i64 0, .int .i64 0] 42)) [.slice none 0 0, .slice none 0 0, .bool false] 28 (n := 3) rfl; rwa [World.size_alloc] at this)
  have c0 : W2.cell? ⟨w.heap.size, 0, none⟩ = some (.int .i64 0) := R1.cell (i := 0) (by omega)
  have c1 : W2.cell? ⟨w.heap.size, 1, none⟩ = some (.int .i64 0) := R1.cell (i := 1) (by omega)
  have c2 : W2.cell? ⟨w.heap.size, 2, none⟩ = some (.int .i64 0) := R1.cell (i := 2) (by omega)
  have c3 : W2.cell? ⟨w.heap.size, 3, none⟩ = some (.int .i64 0) := R1.cell (i := 3) (by omega)
  have c4 : W2.cell? ⟨w.heap.size, 4, none⟩ = some (.int .i64 0) := R1.cell (i := 4) (by omega)
  have c5 : W2.cell? ⟨w.heap.size, 5, none⟩ = some (.int .i64 0) := R1.cell (i := 5) (by omega)
  have WR := hide (wrong_all (caph := caph) (aos := aos) (caps := caps) (most := most) hn (w := W2) (fun i hi => by
    obtain ⟨b, off, ao', cap, e, hb, hc, hj⟩ := SH.below b2 (Nat.le_refl _) i hi
    exact ⟨b, off, ao', cap, e, by omega, hc, fun q hq => by obtain ⟨b', off', e', hb', hc'⟩ := hj q hq; exact ⟨b', off', e', by omega, hc'⟩⟩) hn63)
  have HE := hide he
  have BW := hide b2
  clear SH R1 he b2
  simp only [Shp.val, Shp.zero] at WR ⊢
  unfold errVal
  go_enter Try.func16, Try.ntmps16
  go_wp2_with (go_at_call 51; refine WR.out.mono ?_; rintro e w' ⟨hb, hc⟩; obtain rfl : e = .returned (.int .i64 er) := (by rcases hc with ⟨h1, h2, _⟩ | ⟨er', h, rfl⟩; exact absurd ⟨h1, h2⟩ HE.out.not; rw [h.one HE.out]); have HB := hide hb; have sz3 := hb.size; have rT := R2.out.of_block (hb.block _ (by omega)); have z0 : w'.cell? ⟨w.heap.size + 1, 0, none⟩ = some (.slice none 0 0) := rT.cell (i := 0) (by omega); have z1 : w'.cell? ⟨w.heap.size + 1, 1, none⟩ = some (.slice none 0 0) := rT.cell (i := 1) (by omega); have z2 : w'.cell? ⟨w.heap.size + 1, 2, none⟩ = some (.bool false) := rT.cell (i := 2) (by omega); have y0 := rT.frozen 0; have y1 := rT.frozen 1; have y2 := rT.frozen 2; clear hb hc rT)
  go_light
  refine bodyPost_ret (v := errVal er) ?_ rfl ⟨rfl, (((BW.out.trans (HB.out.mono (by omega))).setCell (by simp) _).setCell (by simp) _).setCell (by simp) _⟩
  simp [results, Try.results16, go_sem, errVal, *]
end Go.Proofs.Ytdbiphibdaghkaa
