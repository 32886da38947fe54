/-
  Lemmas: StepG.
-/
import Derived.Test.YtppgbndoijppnaaGreatTp11
namespace Go.Proofs.YtppgbndoijppnaaGreat
set_option maxHeartbeats 8000000
open Go.RowKit
set_option linter.unusedVariables false
set_option linter.unusedSimpArgs false
set_option maxRecDepth 20000
section
namespace OfAny
set_option linter.unusedSectionVars false
section
variable {K : Kd} {w : World} {base : Nat} {P : Par} {blk : Rl → Nat} {c : Rl → Option Row} {st : St K}
theorem run_step (IK : IsKind K) (H : Has w base blk c) (G : Good K P blk c st) (h : Nat) (hh : h < P.nh) (hd : st.done h < P.jn h) (hk : st.k < 65536) (hb : base ≤ w.heap.size) :
    Calls Tryz.prog 82 #[.pointer (some ⟨blk .run, 0, none⟩), .int .i64 h, .pointer (some ⟨blk .mem, 0, none⟩)] w fun e w' => e = .returned (.tuple #[]) ∧
      ∃ blk' c', Has w' base blk' c' ∧ Good K P blk' c' (stepSt P st h) ∧ blk' .run = blk .run ∧ blk' .mem = blk .mem ∧ Below base w w' := by
  obtain ⟨sv, RF, eR, R0, R1, R2, R3, R4, GS⟩ := G.run
  obtain ⟨T, eT, hT⟩ := G.tasks
  obtain ⟨cap, hcap, eTh⟩ := (hT h hh).1 hd
  obtain ⟨tcap, TF, eTR, hTC, hTF⟩ := G.trow h hh (by omega)
  have eK : K.lies (P.jb h (st.done h)) (fun i => blk (.task h (st.done h) i)) (st.cur h) (fun i => c (.task h (st.done h) i)) := by have := G.task h hh (st.done h) (Nat.le_refl _) hd; rwa [if_pos rfl] at this
  have hTFd := hTF _ hd
  have r0 := H.cell eR (i := 0) (by simp)
  have t0 := H.cell eT (i := h) hh
  have k0 := H.cell eTR (i := st.done h) (by simp; omega)
  simp only [R0] at r0
  simp only [eTh] at t0
  simp only [hTFd] at k0
  have hms := IK.mstep _ (G.jwf h hh _ hd)
  have hma := IK.mans _ (G.jwf h hh _ hd)
  have hcs := IK.cstep _ (G.jwf h hh _ hd)
  have hca := IK.cans _ (G.jwf h hh _ hd)
  have IKO := IK.ok
  have KST := hide (fun w bm bw n f B R => @IsKind.step K IK w bm bw n f B R (st.cur h) _ (G.jwf h hh _ hd) (G.wf h hh hd))
  have KAN := hide (fun (w : World) (B : Nat → Nat) (R : Nat → Option Row) (s : K.σ) (hs : K.wfE (P.jb h (st.done h)) s) => @IsKind.ans K IK w B R s _ (G.jwf h hh _ hd) hs)
  have HWN := hide (show K.wfE (P.jb h (st.done h)) (K.next (st.cur h) (stepOf P.n st.f (K.req (st.cur h)))) from ⟨_, P.n, st.f, G.word, G.wf h hh hd, rfl⟩)
  obtain ⟨tid, htid⟩ : ∃ t, K.tid (P.jb h (st.done h)) = t := ⟨_, rfl⟩
  obtain ⟨fs, hfs⟩ : ∃ t, K.fs (P.jb h (st.done h)) = t := ⟨_, rfl⟩
  obtain ⟨fa, hfa⟩ : ∃ t, K.fa (P.jb h (st.done h)) = t := ⟨_, rfl⟩
  rw [htid] at hms hma k0
  rw [hfs] at hms hcs KST
  rw [hfa] at hma hca KAN
  clear htid hfs hfa IK
  have hnh := G.hands
  have hhn : (h : Int) < (P.nh : Int) := by omega
  have hpos : (0 : Int) < ((P.jn h - st.done h : Nat) : Int) := by omega
  obtain ⟨x, hx⟩ : ∃ x, stepOf P.n st.f (K.req (st.cur h)) = x := ⟨_, rfl⟩
  obtain ⟨f', hf'⟩ : ∃ f', wordsOf P.n st.f (K.req (st.cur h)) = f' := ⟨_, rfl⟩
  obtain ⟨v, hv⟩ : ∃ v : Int, (if K.ends (st.cur h) x = true then (1 : Int) else 0) = v := ⟨_, rfl⟩
  obtain ⟨L, hL⟩ : ∃ L, P.jn h - st.done h = L := ⟨_, rfl⟩
  rw [hL] at t0 hpos hcap
  have HH := hide H
  have GG := hide G
  have HX := hide hx
  have HF := hide hf'
  have HV := hide hv
  have HT := hide hT
  have HGS := hide GS
  have HTF := hide hTF
  clear H G hx hf' hv hT GS hTF hTFd eTh
  go_enter Tryz.func82, Tryz.ntmps82
  go_wp2_with fail
  have LI : K.Lies w (P.jb h (st.done h)) (fun i => blk (.task h (st.done h) i)) (fun i => c (.task h (st.done h) i)) (st.cur h) :=
    ⟨eK, fun i y e => HH.out.row _ _ e, fun i i' y y' e e' hq => by have := HH.out.inj _ _ y y' e e' hq; simpa using this⟩
  have kst := KST.out _ _ _ _ _ _ _ LI (GG.out.isMem HH.out) (fun i y e => ⟨HH.out.ne e GG.out.mem (by simp), HH.out.ne e GG.out.words (by simp)⟩)
  rw [HX.out, HF.out, HV.out] at kst
  refine kst.mono ?_
  clear kst KST
  rintro e w1 ⟨rfl, B', R', hB0, lies1, hold, mem1, tch1⟩
  simp only [Stp.val]
  have H1 := hide (HH.out.taskW h (st.done h) B' R' hb GG.out.words ⟨140, P.n, fun i => .int .u64 (f' i)⟩ mem1.row
    tch1 lies1.row lies1.inj hold)
  obtain ⟨c1, hc1⟩ : ∃ c1, upd (updT c h (st.done h) R') .words (some ⟨140, P.n, fun i => .int .u64 (f' i)⟩) = c1 := ⟨_, rfl⟩
  obtain ⟨blk1, hblk1⟩ : ∃ b, updT blk h (st.done h) B' = b := ⟨_, rfl⟩
  rw [hc1, hblk1] at H1
  have bR1 : blk1 .run = blk .run := by rw [← hblk1]; rfl
  have bM1 : blk1 .mem = blk .mem := by rw [← hblk1]; rfl
  have bA1 : blk1 .answers = blk .answers := by rw [← hblk1]; rfl
  have bT1 : blk1 .tasks = blk .tasks := by rw [← hblk1]; rfl
  have bG1 : blk1 .going = blk .going := by rw [← hblk1]; rfl
  have bK1 : ∀ i, blk1 (.task h (st.done h) i) = B' i := fun i => by rw [← hblk1, updT_same]
  have bO1 : ∀ r, (∀ i, r ≠ .task h (st.done h) i) → blk1 r = blk r := fun r hr => by rw [← hblk1, updT_other _ _ _ _ hr]
  have HL1 := hide lies1.inj
  have HLI := hide lies1.lies
  have HB0 := hide hB0
  have HBK1 := hide hblk1
  have HC1 := hide hc1
  have c1R : c1 .run = some ⟨164, 5, RF⟩ := by rw [← hc1]; simpa [upd, updT] using eR
  have GS1 := hide (show Grows blk1 c1 .steps 69 6 st.k (stepCells st.s st.k) sv by rw [← hc1, ← hblk1]; exact (HGS.out.updT (by simp) _ _).upd' (by simp) _)
  have B1 := hide (tch1.below (B := base) (fun k hk => by rcases hk with rfl | ⟨i, y, e, rfl⟩; exact HH.out.new _ _ GG.out.words; exact HH.out.new _ _ e) hb)
  have hs1 := tch1.size
  have r3 := H1.out.cell c1R (i := 3) (by simp)
  simp only [R3] at r3
  have fr3 := H1.out.frozen c1R 3
  have lr := H1.out.lt c1R
  rw [bR1] at r3 fr3 lr
  have W1 := hide mem1.word
  clear lies1 hold mem1 tch1 hc1 r0 t0 k0 hms hB0 hblk1 LI
  go_wp2_with fail
  go_cut [] from 9 (fun wx => ∃ nb F cp, Has wx base (upd blk1 .steps nb) (upd (upd c1 .steps (some ⟨69, cp * 6, F⟩)) .run (some ⟨164, 5, fun j => if j = 3 then .slice (some ⟨nb, 0, none⟩) (st.k + 1) cp else RF j⟩)) ∧
    Grows (upd blk1 .steps nb) (upd (upd c1 .steps (some ⟨69, cp * 6, F⟩)) .run (some ⟨164, 5, fun j => if j = 3 then .slice (some ⟨nb, 0, none⟩) (st.k + 1) cp else RF j⟩)) .steps 69 6 (st.k + 1) (stepCells st.s st.k ++ x.cells) (.slice (some ⟨nb, 0, none⟩) (st.k + 1) cp) ∧ Below base w wx)
  case first =>
    go_region_law (
      refine step_append_at rfl (.tmp 28) (.tmp 30) 30 rfl base 69 _ 6 48 Tryz.underlying30 info48z rfl (by decide) sv st.k (stepCells st.s st.k) (by simp [Act.eval, Act.put]) (GS1.out.owns (((H1.out.alloc _).alloc _).drew) (stepCells_length _ _)) ⟨w1.heap.size + 1, 0, none⟩ 1 1 x.cells (by simp [Act.eval, Act.put]) rfl (by intro j u hj; have := cells_new (w1.alloc (.cells #[.int .i64 x.hand, .int .i64 x.act, .int .i64 x.at_, .int .u64 x.had, .int .u64 x.put, .bool x.ok] 69)) #[.int .i64 x.hand, .int .i64 x.act, .int .i64 x.at_, .int .u64 x.had, .int .u64 x.put, .bool x.ok] 69 j u (by simpa [Stp.cells] using hj); simpa using this) (step_one x) (by unfold maxLen; omega) (by omega) (by simp; omega) ?_
      intro v' w3 hown hg hat
      obtain ⟨nb, F, cp, rfl, H3, G3, hbn, hnb⟩ := Grows.appended GS1.out H1.out (by omega) ((((Touch.refl w1 (fun _ => False)).alloc _).alloc _).drew) hown hg hat
      have e3 : (upd c1 .steps (some ⟨69, cp * 6, F⟩)) .run = some ⟨164, 5, RF⟩ := by rw [upd_other _ _ (by simp)]; exact c1R
      have r3' : w3.cell? ⟨blk .run, 3, none⟩ = some sv := by have := H3.cell e3 (i := 3) (by simp); rw [upd_other _ _ (by simp), bR1] at this; simpa [R3] using this
      have f3' : w3.frozen? ⟨blk .run, 3, none⟩ = false := by have := H3.frozen e3 3; rw [upd_other _ _ (by simp), bR1] at this; exact this
      have HA := hide H3
      have GA := hide G3
      have BA := hide (B1.out.trans (((((Below.refl base w1).alloc (by omega) (.cells #[.int .i64 x.hand, .int .i64 x.act, .int .i64 x.at_, .int .u64 x.had, .int .u64 x.put, .bool x.ok] 69)).alloc (by simp; omega) (.cells #[.int .i64 x.hand, .int .i64 x.act, .int .i64 x.at_, .int .u64 x.had, .int .u64 x.put, .bool x.ok] 69)).drew).grown hg (by simp; omega) (fun k hk => ((GS1.out.owns H1.out (stepCells_length _ _)).lt k hk).1)))
      have ZZ := hide (And.intro hbn e3)
      clear H3 G3 hown hg hat hnb hbn e3)
    all_goals go_wp2_with fail
    all_goals go_meet
    all_goals
      case rel =>
        refine ⟨nb, F, cp, ?_, GA.out.upd' (by simp) _, BA.out.setCell (by have := H1.out.new _ _ c1R; rw [bR1] at this; exact this) _⟩
        have := HA.out.set .run ZZ.out.2 3 (.slice (some ⟨nb, 0, none⟩) (st.k + 1) cp)
        rw [upd_other (r' := Rl.run) (r := Rl.steps) blk1 nb (by simp), bR1] at this
        exact this
  case rest =>
    obtain ⟨nb, F, cp, H2, G2, B2⟩ := hcut
    obtain ⟨blk2, hblk2⟩ : ∃ b, upd blk1 .steps nb = b := ⟨_, rfl⟩
    obtain ⟨c2, hc2⟩ : ∃ c2, upd (upd c1 .steps (some ⟨69, cp * 6, F⟩)) .run (some ⟨164, 5, fun j => if j = 3 then .slice (some ⟨nb, 0, none⟩) (st.k + 1) cp else RF j⟩) = c2 := ⟨_, rfl⟩
    rw [hblk2, hc2] at H2 G2
    have c2R : c2 .run = some ⟨164, 5, fun j => if j = 3 then .slice (some ⟨nb, 0, none⟩) (st.k + 1) cp else RF j⟩ := by rw [← hc2, upd_same]
    have bR : blk2 .run = blk .run := by rw [← hblk2, upd_other _ _ (by simp), bR1]
    have r2 := H2.cell c2R (i := 2) (by simp)
    have f2 := H2.frozen c2R 2
    rw [bR] at r2 f2
    simp only [show ¬ (2 : Nat) = 3 by decide, if_false, R2] at r2
    have Ha := hide H2
    have Ga := hide G2
    have Ba := hide B2
    have Hb := hide hblk2
    have Hc := hide hc2
    clear H2 G2 B2 hblk2 hc2 r3 fr3
    have hans := hma
    obtain ⟨A, eA, hA⟩ := GG.out.answers
    have c2K : ∀ i, c2 (.task h (st.done h) i) = R' i := fun i => by rw [← Hc.out, ← HC1.out, upd_other _ _ (by simp), upd_other _ _ (by simp), upd_other _ _ (by simp), updT_same]
    have c2A : c2 .answers = some ⟨76, P.nh, A⟩ := by rw [← Hc.out, ← HC1.out]; simpa [upd, updT] using eA
    have c2T : c2 .tasks = some ⟨184, P.nh, T⟩ := by rw [← Hc.out, ← HC1.out]; simpa [upd, updT] using eT
    have bA : blk2 .answers = blk .answers := by rw [← Hb.out, upd_other _ _ (by simp), bA1]
    have bK : ∀ i, blk2 (.task h (st.done h) i) = B' i := fun i => by rw [← Hb.out, upd_other _ _ (by simp), bK1]
    have GA1 := hide (show Grows blk2 c2 (.arow h) 56 2 (st.done h) (ansCells (st.ans h) (st.done h)) (A h) by
      rw [← Hb.out, ← Hc.out, ← HC1.out, ← HBK1.out]
      exact ((((hA h hh).updT (by simp) _ _).upd' (by simp) _).upd (by simp) _ _).upd' (by simp) _)
    obtain ⟨c3, hc3⟩ : ∃ c3, upd c2 .run (some ⟨164, 5, fun j => if j = 2 then .int .i64 h else if j = 3 then .slice (some ⟨nb, 0, none⟩) (st.k + 1) cp else RF j⟩) = c3 := ⟨_, rfl⟩
    have H3 : Has (wc.setCell ⟨blk .run, 2, none⟩ (.int .i64 h)) base blk2 c3 := by
      have := Ha.out.set .run c2R 2 (.int .i64 h)
      rw [bR, hc3] at this
      exact this
    have B3 := hide (Ba.out.setCell (p := ⟨blk .run, 2, none⟩) (by have := Ha.out.new _ _ c2R; rw [bR] at this; exact this) (.int .i64 h))
    have HC3 := hide hc3
    have H3' := hide H3
    have hdl := GG.out.doneLe h hh
    have hjb := GG.out.jobs h hh
    clear hc3 H3
    by_cases hend : K.ends (st.cur h) x = true
    · have hv1 := HV.out
      rw [if_pos hend] at hv1
      subst hv1
      obtain ⟨w4, hw4⟩ : ∃ w4, wc.setCell ⟨blk .run, 2, none⟩ (.int .i64 h) = w4 := ⟨_, rfl⟩
      go_wp2_with fail
      rw [hw4] at H3' B3
      have c3R : c3 .run = some ⟨164, 5, fun j => if j = 2 then .int .i64 h else if j = 3 then .slice (some ⟨nb, 0, none⟩) (st.k + 1) cp else RF j⟩ := by rw [← HC3.out, upd_same]
      have c3A : c3 .answers = some ⟨76, P.nh, A⟩ := by rw [← HC3.out, upd_other _ _ (by simp)]; exact c2A
      have c3K : ∀ i, c3 (.task h (st.done h) i) = R' i := fun i => by rw [← HC3.out, upd_other _ _ (by simp)]; exact c2K i
      have GA3 := hide (show Grows blk2 c3 (.arow h) 56 2 (st.done h) (ansCells (st.ans h) (st.done h)) (A h) by rw [← HC3.out]; exact GA1.out.upd' (by simp) _)
      have r4 := H3'.out.cell c3R (i := 4) (by simp)
      have ah := H3'.out.cell c3A (i := h) hh
      have fah := H3'.out.frozen c3A h
      rw [bR] at r4
      rw [bA] at ah fah
      simp only [show ¬ (4 : Nat) = 2 by decide, show ¬ (4 : Nat) = 3 by decide, if_false, R4] at r4
      obtain ⟨av, hav⟩ : ∃ av, A h = av := ⟨_, rfl⟩
      simp only [hav] at ah GA3
      obtain ⟨tl, htl⟩ : ∃ tl, K.tell (K.next (st.cur h) x) = tl := ⟨_, rfl⟩
      have KR : K.Lies w4 (P.jb h (st.done h)) B' R' (K.next (st.cur h) x) := ⟨HLI.out, fun i y e => by have := H3'.out.row _ _ ((c3K i).trans e); rw [bK i] at this; exact this, HL1.out⟩
      have KR' := hide KR
      have HTL := hide htl
      have hbs := B3.out.size
      have c3R' := hide c3R
      clear KR htl c3R r2 f2 c2R
      go_cut [] from 9 (fun wx => ∃ nb2 F2 cp2, Has wx base (upd blk2 (.arow h) nb2) (upd (upd c3 (.arow h) (some ⟨56, cp2 * 2, F2⟩)) .answers (some ⟨76, P.nh, fun j => if j = h then .slice (some ⟨nb2, 0, none⟩) (st.done h + 1) cp2 else A j⟩)) ∧
        Grows (upd blk2 (.arow h) nb2) (upd (upd c3 (.arow h) (some ⟨56, cp2 * 2, F2⟩)) .answers (some ⟨76, P.nh, fun j => if j = h then .slice (some ⟨nb2, 0, none⟩) (st.done h + 1) cp2 else A j⟩)) (.arow h) 56 2 (st.done h + 1) (ansCells (st.ans h) (st.done h) ++ tl.cells) (.slice (some ⟨nb2, 0, none⟩) (st.done h + 1) cp2) ∧ Below base w wx)
      case first =>
        go_region_law (first
          | (refine step_append_at rfl (.tmp 51) (.tmp 54) 76 rfl base 56 _ 2 16 Tryz.underlying76 info54z rfl (by decide) av (st.done h) (ansCells (st.ans h) (st.done h)) (by simp [Act.eval, Act.put]) (GA3.out.owns (H5.out.alloc _) (ansCells_length _ _)) ⟨w5.heap.size, 0, none⟩ 1 1 tl.cells (by simp [Act.eval, Act.put]) rfl (by intro j u hj; have := cells_new w5 #[.bool tl.ok, .int .u64 tl.val] 56 j u (by simpa [Ans.cells] using hj); simpa using this) (ans_one tl) (by unfold maxLen; omega) (by omega) (by simp; omega) ?_
             intro v' w6 hown hg hat
             obtain ⟨nb2, F2, cp2, rfl, H6, G6, hbn, hnb⟩ := Grows.appended GA3.out H5.out (by omega) ((Touch.refl w5 (fun _ => False)).alloc _) hown hg hat
             have e6 : (upd c3 (.arow h) (some ⟨56, cp2 * 2, F2⟩)) .answers = some ⟨76, P.nh, A⟩ := by rw [upd_other _ _ (by simp)]; exact c3A
             have a6 : w6.cell? ⟨blk .answers, h, none⟩ = some av := by have := H6.cell e6 (i := h) hh; rw [upd_other _ _ (by simp), bA] at this; simpa [hav] using this
             have f6 : w6.frozen? ⟨blk .answers, h, none⟩ = false := by have := H6.frozen e6 h; rw [upd_other _ _ (by simp), bA] at this; exact this
             have r46 : w6.cell? ⟨blk .run, 4, none⟩ = some (.slice (some ⟨blk .answers, 0, none⟩) P.nh P.nh) := by have := H6.cell (show (upd c3 (.arow h) (some ⟨56, cp2 * 2, F2⟩)) .run = _ by rw [upd_other _ _ (by simp)]; exact c3R'.out) (i := 4) (by simp); rw [upd_other _ _ (by simp), bR] at this; simpa [R4] using this
             have HA6 := hide H6
             have GA6 := hide G6
             have BA6 := hide ((B5.out.alloc (by omega) (.cells #[.bool tl.ok, .int .u64 tl.val] 56)).grown hg (by simp; omega) (fun k hk => ((GA3.out.owns H5.out (ansCells_length _ _)).lt k hk).1))
             have ZZ6 := hide e6
             clear H6 G6 hown hg hat hnb hbn e6)
          | (go_simp; have kan := KAN.out _ B' R' _ (HX.out ▸ HWN.out) KR'.out.drew; rw [HB0.out] at kan; refine kan.mono ?_; clear kan; rintro e w5 ⟨rfl, hg5⟩; have ht5 := HTL.out; have hs5 := hg5.size; simp only [World.size_drew] at hs5; have H5 := hide (H3'.out.drew.grown hg5); have B5 := hide (B3.out.drew.trans (below_of_grown_none hg5 base (by simp; omega))); have r45 := hg5.cell (a := ⟨blk .run, 4, none⟩) r4 (by simp); have ah5 := hg5.cell (a := ⟨blk .answers, h, none⟩) ah (by simp); have la5 := World.block_lt_of_cell? _ _ ah5; have lr5 := World.block_lt_of_cell? _ _ r45; simp only at la5 lr5; clear hg5; rw [ht5]; simp only [Ans.value]))
        all_goals go_wp2_with fail
        all_goals go_meet
        all_goals
          case rel =>
            refine ⟨nb2, F2, cp2, ?_, GA6.out.upd' (by simp) _, BA6.out.setCell (by have := H3'.out.new _ _ c3A; rw [bA] at this; exact this) _⟩
            have := HA6.out.set .answers ZZ6.out h (.slice (some ⟨nb2, 0, none⟩) (st.done h + 1) cp2)
            rw [upd_other (r' := Rl.answers) (r := Rl.arow h) blk2 nb2 (by simp), bA] at this
            exact this
      case rest =>
        obtain ⟨nb2, F2, cp2, H7, G7, B7⟩ := hcut
        obtain ⟨blk4, hblk4⟩ : ∃ b, upd blk2 (.arow h) nb2 = b := ⟨_, rfl⟩
        obtain ⟨c4, hc4⟩ : ∃ c4, upd (upd c3 (.arow h) (some ⟨56, cp2 * 2, F2⟩)) .answers (some ⟨76, P.nh, fun j => if j = h then .slice (some ⟨nb2, 0, none⟩) (st.done h + 1) cp2 else A j⟩) = c4 := ⟨_, rfl⟩
        rw [hblk4, hc4] at H7 G7
        have c4R : c4 .run = some ⟨164, 5, fun j => if j = 2 then .int .i64 h else if j = 3 then .slice (some ⟨nb, 0, none⟩) (st.k + 1) cp else RF j⟩ := by rw [← hc4]; simpa [upd] using c3R'.out
        have c4T : c4 .tasks = some ⟨184, P.nh, T⟩ := by rw [← hc4, ← HC3.out]; simpa [upd] using c2T
        have bR4 : blk4 .run = blk .run := by rw [← hblk4, upd_other _ _ (by simp)]; exact bR
        have bT4 : blk4 .tasks = blk .tasks := by rw [← hblk4, ← Hb.out, upd_other _ _ (by simp), upd_other _ _ (by simp), bT1]
        have bG4 : blk4 .going = blk .going := by rw [← hblk4, ← Hb.out, upd_other _ _ (by simp), upd_other _ _ (by simp), bG1]
        have r0 := H7.cell c4R (i := 0) (by simp)
        rw [bR4] at r0
        simp only [show ¬ (0 : Nat) = 2 by decide, show ¬ (0 : Nat) = 3 by decide, if_false, R0] at r0
        have t0 := H7.cell c4T (i := h) hh
        have ft0 := H7.frozen c4T h
        rw [bT4] at t0 ft0
        obtain ⟨cap0, hcap0, eTh⟩ := (HT.out h hh).1 hd
        simp only [eTh] at t0
        have e1L : ((P.jn h - st.done h : Nat) : Int) = ((P.jn h - (st.done h + 1) : Nat) : Int) + 1 := by omega
        obtain ⟨L1, hL1⟩ : ∃ L1, P.jn h - (st.done h + 1) = L1 := ⟨_, rfl⟩
        rw [show P.jn h - st.done h = L1 + 1 by omega] at t0
        have hLc : L1 + 1 ≤ cap0 := by omega
        have H7' := hide H7
        have G7' := hide G7
        have B7' := hide B7
        have HB4 := hide hblk4
        have HC4 := hide hc4
        clear H7 G7 B7 hblk4 hc4 r4 ah fah hans
        go_wp2_with fail
        go_cut [] from 9 (fun wx => ∃ ao tc, (0 < L1 → ao = some ⟨blk (.trow h), st.done h + 1, none⟩ ∧ L1 ≤ tc) ∧ Has wx base blk4 (upd c4 .tasks (some ⟨184, P.nh, fun j => if j = h then .slice ao L1 tc else T j⟩)) ∧ Below base w wx)
        case first =>
          by_cases hc1 : cap0 = 1
          · subst hc1
            have hL0 : L1 = 0 := by omega
            subst hL0
            go_region
            all_goals go_wp2_with fail
            all_goals go_meet
            all_goals
              case rel =>
                refine ⟨some ⟨blk (.trow h), st.done h, none⟩, 0, fun h0 => absurd h0 (Nat.lt_irrefl 0), ?_, (B7'.out.setCell (p := ⟨blk .tasks, h, none⟩) (by have := H7'.out.new _ _ c4T; rw [bT4] at this; exact this) _).drew⟩
                have := (H7'.out.set .tasks c4T h (.slice (some ⟨blk (.trow h), st.done h, none⟩) 0 0)).drew
                rw [bT4] at this
                exact this
          · go_region
            all_goals go_wp2_with fail
            all_goals go_meet
            all_goals
              case rel =>
                refine ⟨some ⟨blk (.trow h), st.done h + 1, none⟩, cap0 - 1, fun h0 => ⟨rfl, (by omega)⟩, ?_, (B7'.out.setCell (p := ⟨blk .tasks, h, none⟩) (by have := H7'.out.new _ _ c4T; rw [bT4] at this; exact this) _).drew⟩
                have := (H7'.out.set .tasks c4T h (.slice (some ⟨blk (.trow h), st.done h + 1, none⟩) L1 (cap0 - 1))).drew
                rw [bT4] at this
                exact this
        case rest =>
          obtain ⟨ao, tc, hao, H8, B8⟩ := hcut
          obtain ⟨c5, hc5⟩ : ∃ c5, upd c4 .tasks (some ⟨184, P.nh, fun j => if j = h then .slice ao L1 tc else T j⟩) = c5 := ⟨_, rfl⟩
          rw [hc5] at H8
          obtain ⟨Gf, eGf, hGf⟩ := GG.out.going
          have c5R : c5 .run = some ⟨164, 5, fun j => if j = 2 then .int .i64 h else if j = 3 then .slice (some ⟨nb, 0, none⟩) (st.k + 1) cp else RF j⟩ := by rw [← hc5]; simpa [upd] using c4R
          have c5T : c5 .tasks = some ⟨184, P.nh, fun j => if j = h then .slice ao L1 tc else T j⟩ := by rw [← hc5]; simp [upd]
          have c5G : c5 .going = some ⟨4, P.nh, Gf⟩ := by rw [← hc5, ← HC4.out, ← HC3.out, ← Hc.out, ← HC1.out]; simpa [upd, updT] using eGf
          have r0 := H8.cell c5R (i := 0) (by simp)
          have r1 := H8.cell c5R (i := 1) (by simp)
          rw [bR4] at r0 r1
          simp only [show ¬ (0 : Nat) = 2 by decide, show ¬ (0 : Nat) = 3 by decide, show ¬ (1 : Nat) = 2 by decide, show ¬ (1 : Nat) = 3 by decide, if_false, R0, R1] at r0 r1
          have t0 := H8.cell c5T (i := h) hh
          have g0 := H8.cell c5G (i := h) hh
          have fg0 := H8.frozen c5G h
          rw [bT4] at t0
          rw [bG4] at g0 fg0
          simp only [if_true] at t0
          simp only [hGf h hh] at g0
          have H8' := hide H8
          have B8' := hide B8
          have HC5 := hide hc5
          have HAO := hide hao
          have FIN : Hid (∀ bv, bv = decide (st.done h + 1 < P.jn h) → ∃ blk' c', Has (wc.setCell ⟨blk .going, h, none⟩ (.bool bv)).drew base blk' c' ∧ Good K P blk' c' (stepSt P st h) ∧ blk' .run = blk .run ∧ blk' .mem = blk .mem ∧ Below base w (wc.setCell ⟨blk .going, h, none⟩ (.bool bv)).drew) := by
            intro bv hbv
            have hh9 := (H8.set .going c5G h (.bool bv)).drew
            rw [bG4] at hh9
            have hbm : blk4 .mem = blk .mem := by rw [← HB4.out, ← Hb.out, upd_other _ _ (by simp), upd_other _ _ (by simp), bM1]
            refine ⟨blk4, _, hh9, ?_, bR4, hbm, (B8.setCell (p := ⟨blk .going, h, none⟩) (by have := H8.new _ _ c5G; rw [bG4] at this; exact this) _).drew⟩
            refine GG.out.ended (A := A) (T := T) (Gf := Gf) IKO hh hd HX.out HF.out hend W1.out ?_ ?_ ?_ ?_ (RF := fun j => if j = 2 then .int .i64 h else if j = 3 then .slice (some ⟨nb, 0, none⟩) (st.k + 1) cp else RF j) ?_ R0 R1 rfl R4 ?_ eT (T' := fun j => if j = h then .slice ao L1 tc else T j) ?_ (fun i hi => by simp [hi]) (by simp [hL1]) (fun hl => hL1 ▸ hao (by omega)) eGf (Gf' := fun j => if j = h then .bool bv else Gf j) ?_ (fun i hi => by simp [hi]) (by simp [hbv]) eA (A' := fun j => if j = h then .slice (some ⟨nb2, 0, none⟩) (st.done h + 1) cp2 else A j) ?_ (fun i hi => by simp [hi]) ?_
            · intro r h1 h2 h3; rw [← HB4.out, ← Hb.out, upd_other _ _ h2, upd_other _ _ h1, bO1 _ h3]
            · rw [← HB4.out, upd_other _ _ (by simp), bK 0]; exact HB0.out
            · intro r a1 a2 a3 a4 a5 a6 a7 a8
              rw [upd_other _ _ a8, ← hc5, upd_other _ _ a7, ← HC4.out, upd_other _ _ a6, upd_other _ _ a5, ← HC3.out, upd_other _ _ a2, ← Hc.out, upd_other _ _ a2, upd_other _ _ a1, ← HC1.out, upd_other _ _ a3, updT_other _ _ _ _ a4]
            · rw [upd_other _ _ (by simp), ← hc5, ← HC4.out, ← HC3.out, ← Hc.out, ← HC1.out]; simp [upd, updT]
            · rw [upd_other _ _ (by simp)]; exact c5R
            · have := Ga.out
              refine this.congr ?_ ?_
              · rw [← HB4.out, upd_other _ _ (by simp)]
              · rw [upd_other _ _ (by simp), ← hc5, ← HC4.out, ← HC3.out]; simp [upd]
            · rw [upd_other _ _ (by simp)]; exact c5T
            · rw [upd_same]
            · rw [upd_other _ _ (by simp), ← hc5, ← HC4.out]; simp [upd]
            · have := G7'.out
              rw [← HTL.out] at this
              simp only [if_true]
              refine this.congr rfl ?_
              rw [upd_other _ _ (by simp), ← hc5]; simp [upd]
          clear H8 B8 hc5 hao
          by_cases hL0 : L1 = 0
          · subst hL0
            go_wp2_with fail
            go_region
            all_goals go_wp2_with fail
            all_goals go_end0
            all_goals exact ⟨rfl, FIN.out false (by simp; omega)⟩
          · have hp : (0 : Int) < (L1 : Int) := by omega
            go_wp2_with fail
            go_region
            all_goals go_wp2_with fail
            all_goals go_end0
            all_goals exact ⟨rfl, FIN.out (decide (0 < L1)) (decide_eq_decide.2 (by omega))⟩
    · have hv1 := HV.out
      rw [if_neg hend] at hv1
      subst hv1
      go_wp2_with fail
      go_end0
      have hbm : blk2 .mem = blk .mem := by rw [← Hb.out, upd_other _ _ (by simp), bM1]
      refine ⟨rfl, blk2, c3, H3'.out, ?_, bR, hbm, B3.out⟩
      refine GG.out.goesOn IKO hh hd HX.out HF.out hend W1.out ?_ ?_ ?_ ?_ ?_ (RF := fun j => if j = 2 then .int .i64 h else if j = 3 then .slice (some ⟨nb, 0, none⟩) (st.k + 1) cp else RF j) ?_ R0 R1 rfl R4 ?_
      · intro r h1 h3; rw [← Hb.out, upd_other _ _ h1, bO1 _ h3]
      · rw [bK 0]; exact HB0.out
      · intro r a1 a2 a3 a4
        rw [← HC3.out, upd_other _ _ a2, ← Hc.out, upd_other _ _ a2, upd_other _ _ a1, ← HC1.out, upd_other _ _ a3, updT_other _ _ _ _ a4]
      · rw [← HC3.out, ← Hc.out, ← HC1.out]; simp [upd, updT]
      · have ec : (fun i => c3 (.task h (st.done h) i)) = R' := funext fun i => by rw [← HC3.out, upd_other _ _ (by simp), c2K i]
        rw [ec, funext bK]; exact HLI.out
      · rw [← HC3.out, upd_same]
      · refine Ga.out.congr rfl ?_
        rw [← HC3.out]; simp [upd]
end
end OfAny
end
end Go.Proofs.YtppgbndoijppnaaGreat
