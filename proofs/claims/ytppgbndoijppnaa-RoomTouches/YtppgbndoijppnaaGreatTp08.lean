/-
  Lemmas: RBegin2.
-/
import Derived.Test.YtppgbndoijppnaaGreatTp06
namespace Go.Proofs.YtppgbndoijppnaaGreat
set_option maxHeartbeats 8000000
open Go.RowKit
set_option linter.unusedVariables false
set_option linter.unusedSimpArgs false
set_option linter.unnecessarySimpa false
set_option maxRecDepth 20000
section
open Beg
theorem info76 : (Tryz.prog.info? 59).map (fun i => (i.zero.map Value.cells, i.size, i.bytes)) = some (some zTask, 28, 240) := by kernel_rfl
theorem info4r : (Tryz.prog.info? 4).map (fun i => (i.zero.map Value.cells, i.size, i.bytes)) = some (some #[.bool false], 1, 1) := by kernel_rfl
theorem info3r : (Tryz.prog.info? 3).map (fun i => (i.zero.map Value.cells, i.size, i.bytes)) = some (some #[.int .i64 0], 1, 8) := by kernel_rfl
theorem info77r : (Tryz.prog.info? 57).map (fun i => (i.zero.map Value.cells, i.size, i.bytes)) = some (some zKept, 4, 32) := by kernel_rfl
theorem info47r : (Tryz.prog.info? 76).map (fun i => (i.zero.map Value.cells, i.size, i.bytes)) = some (some #[.slice none 0 0], 1, 24) := by kernel_rfl
theorem size42 : (Tryz.prog.info? 23).map (·.size) = some 6 := by kernel_rfl
theorem size90 : (Tryz.prog.info? 115).map (·.size) = some 15 := by kernel_rfl
theorem row90 : ∃ d, Tryz.prog.underlying 115 = some d ∧ d.isRow = true := by
  have h : (Tryz.prog.underlying 115).map (fun d => d.isRow) = some true := by kernel_rfl
  exact Option.map_eq_some_iff.1 h
theorem row42 : ∃ d, Tryz.prog.underlying 23 = some d ∧ d.isRow = true := by
  have h : (Tryz.prog.underlying 23).map (fun d => d.isRow) = some true := by kernel_rfl
  exact Option.map_eq_some_iff.1 h
theorem build90 (w : World) (ev : Operand → Value) (sh : Shp) (a1 a2 a3 a4 a5 a6 a7 : Option Addr) (n1 n2 n3 n4 n5 n6 n7 c1 c2 c3 c4 c5 c6 c7 : Nat) (x0 x1 x2 x3 x4 x5 x6 x7 : Operand) (o : Oper) (ho : o.op = Op.build 115 #[(0, x0), (1, x1), (2, x2), (3, x3), (4, x4), (5, x5), (6, x6), (8, x7), (9, Operand.const (Value.int IntKind.i64 (-1)))])
    (hc : ev (Operand.const (Value.int IntKind.i64 (-1))) = Value.int IntKind.i64 (-1))
    (h0 : ev x0 = sh.val) (h1 : ev x1 = .slice a1 n1 c1) (h2 : ev x2 = .slice a2 n2 c2) (h3 : ev x3 = .slice a3 n3 c3) (h4 : ev x4 = .slice a4 n4 c4) (h5 : ev x5 = .slice a5 n5 c5) (h6 : ev x6 = .slice a6 n6 c6) (h7 : ev x7 = .slice a7 n7 c7) :
    (execOp ev o).run Tryz.prog w = .ok (.value (.agg (runCells sh (.slice a1 n1 c1) (.slice a2 n2 c2) (.slice a3 n3 c3) (.slice a4 n4 c4) (.slice a5 n5 c5) (.slice a6 n6 c6) (.slice none 0 0) (.slice a7 n7 c7) (-1)).toArray)) w := by
  unfold Shp.val at h0
  simp [execOp, ho, go_sem, h0, h1, h2, h3, h4, h5, h6, h7, hc, runCells]
theorem cell_range {w : World} {b : Nat} {t : TypeId} {cs : List Value} : (w.alloc (.cells cs.toArray t)).rangeAt w.heap.size 0 cs := by
  intro j v hv
  have := (World.rowIs_alloc' w cs.toArray t cs.length (by simp) (f := fun i => cs[i]?.getD default) (fun i hi => by simp [hi])).cell (i := j) (List.getElem?_eq_some_iff.1 hv).1
  simpa [hv] using this
theorem there_alloc_new {w : World} {t : TypeId} {cs : List Value} : (w.alloc (.cells cs.toArray t)).there w.heap.size 0 cs.length := by
  intro j hj
  have R := World.rowIs_alloc' w cs.toArray t cs.length (by simp) (f := fun i => cs[i]?.getD default) (fun i hi => by simp [hi])
  have := R.cell (i := j) hj
  exact ⟨by simp only [Nat.zero_add]; rw [this]; rfl, by simpa using R.frozen j⟩
theorem begin_any {w : World} {ao aoh : Option Addr} {n cap nh caph : Nat} {f : Nat → Int} (sh : Shp) (S : Sees w w.heap.size ao n f) (hnil : ao = none → n = 0 ∧ cap = 0) (hf : ∀ i, i < n → 0 ≤ f i ∧ f i ≤ 18446744073709551615) (hn : n ≤ 4096) (hnh : nh ≤ 8) :
    Calls Tryz.prog 45 #[sh.val, .slice ao n cap, .slice aoh nh caph] w fun e w' => ∃ blk c capw F, e = .returned (.agg (cellsAt sh (.slice (some ⟨blk .words, 0, none⟩) n capw) (.slice aoh nh caph) blk nh).toArray) ∧ Has w' (w.heap.size + 2) blk c ∧
      (∀ r k d x, mkr nh r = some (k, d, x) → c r = some x) ∧ (c .steps = none ∧ ∀ h, c (.arow h) = none) ∧ c .words = some ⟨50, capw, F⟩ ∧ n ≤ capw ∧ capw ≤ maxLen ∧ (∀ i, i < n → F i = .int .u64 (f i)) ∧ Below w.heap.size w w' := by
  obtain ⟨s0, s1, s2, s3, s4, s5⟩ := sh
  have hS := hide S
  have hF := hide hf
  have hN := hide hnil
  clear S hf hnil
  obtain ⟨i46, hi46, hz46, hs46, hy46⟩ := info46e
  have HI := hide hi46
  clear hi46
  unfold Shp.val
  simp only
  go_enter Tryz.func45, Tryz.ntmps45
  go_wp2_with fail
  rename_i Q' K hK
  obtain ⟨w0, hw0⟩ : ∃ w0, (w.alloc (.cells [Value.int .i64 s0, .int .i64 s1, .int .i64 s2, .int .i64 s3, .int .i64 s4, .int .i64 s5].toArray 23)).alloc (.cells [Value.int .i64 0, .int .i64 0, .int .i64 0, .int .i64 0, .int .i64 0, .int .i64 0, .slice none 0 0, .slice none 0 0, .slice none 0 0, .slice none 0 0, .slice none 0 0, .slice none 0 0, .slice none 0 0, .slice none 0 0, .int .i64 0].toArray 115) = w0 := ⟨_, rfl⟩
  have hsz : w0.heap.size = w.heap.size + 2 := by rw [← hw0]; simp
  have hbel : Below w.heap.size w w0 := by rw [← hw0]; exact ((Below.refl _ w).alloc (Nat.le_refl _) _).alloc (by simp) _
  have hsh : w0.rangeAt w.heap.size 0 [Value.int .i64 s0, .int .i64 s1, .int .i64 s2, .int .i64 s3, .int .i64 s4, .int .i64 s5] := by rw [← hw0]; exact World.rangeAt_alloc (cell_range (b := 0)) _
  have hth : w0.there (w.heap.size + 1) 0 15 := by
    rw [← hw0]
    have := there_alloc_new (w := w.alloc (.cells [Value.int .i64 s0, .int .i64 s1, .int .i64 s2, .int .i64 s3, .int .i64 s4, .int .i64 s5].toArray 23)) (t := 115) (cs := [Value.int .i64 0, .int .i64 0, .int .i64 0, .int .i64 0, .int .i64 0, .int .i64 0, .slice none 0 0, .slice none 0 0, .slice none 0 0, .slice none 0 0, .slice none 0 0, .slice none 0 0, .slice none 0 0, .slice none 0 0, .int .i64 0])
    simpa using this
  show Code.wp Tryz.prog _ _ _ ((w.alloc (.cells [Value.int .i64 s0, .int .i64 s1, .int .i64 s2, .int .i64 s3, .int .i64 s4, .int .i64 s5].toArray 23)).alloc (.cells [Value.int .i64 0, .int .i64 0, .int .i64 0, .int .i64 0, .int .i64 0, .int .i64 0, .slice none 0 0, .slice none 0 0, .slice none 0 0, .slice none 0 0, .slice none 0 0, .slice none 0 0, .slice none 0 0, .slice none 0 0, .int .i64 0].toArray 115))
  rw [hw0]
  clear hw0
  have hb : ∀ (w' : World) (blk : Rl → Nat) (c : Rl → Option Row) (L : Nat → Bool) (a : Act), In w0 w.heap.size ⟨s0, s1, s2, s3, s4, s5⟩ (.slice ao n cap) (.slice aoh nh caph) n nh f L a w' blk c → Below w.heap.size w w' := fun w' blk c L a h =>
    hbel.trans ⟨h.tch.os, h.tch.tape, h.tch.output, h.tch.size, fun k hk => h.tch.block k (by omega) (by omega)⟩
  refine region_inv (by kernel_rfl) ?guards ?back (fun L a w' => ∃ blk c, In w0 w.heap.size ⟨s0, s1, s2, s3, s4, s5⟩ (.slice ao n cap) (.slice aoh nh caph) n nh f L a w' blk c) ?step ?fin ?start
  case guards =>
    intro i o ho
    have hi : i < 17 := by have := (Array.getElem?_eq_some_iff.1 ho).1; simpa using this
    match i, hi with
    | 0, _ | 1, _ | 2, _ | 3, _ | 4, _ | 5, _ | 6, _ | 7, _ | 8, _ | 9, _ | 10, _ | 11, _ | 12, _ | 13, _ | 14, _ | 15, _ | 16, _ => injection ho with ho; subst ho; rfl
  case back =>
    intro i o ho
    have hi : i < 17 := by have := (Array.getElem?_eq_some_iff.1 ho).1; simpa using this
    match i, hi with
    | 0, _ | 1, _ | 2, _ | 3, _ | 4, _ | 5, _ | 6, _ | 7, _ | 8, _ | 9, _ | 10, _ | 11, _ | 12, _ | 13, _ | 14, _ | 15, _ | 16, _ => injection ho with ho; subst ho; simp [Region.binds]
  case start =>
    refine ⟨fun _ => 0, fun _ => none, rfl, rfl, rfl, rfl, rfl, rfl, rfl, ?_, ?_, fun _ _ _ _ h => (by cases h), ⟨fun _ _ _ _ h => (by cases h), fun _ _ h => (by cases h), fun _ _ h => (by cases h)⟩, fun r k d x hr => ⟨fun h => (by cases h), fun _ => rfl⟩, ⟨rfl, fun _ => rfl⟩, ⟨fun _ => ⟨rfl, rfl⟩, fun h => (by cases h), fun h => (by cases h)⟩, fun h => (by cases h), fun h => (by cases h)⟩
    · exact ⟨rfl, rfl, rfl, Nat.le_refl _, fun _ _ _ => rfl⟩
    · exact hth
  case fin =>
    rintro L a w' ⟨blk, c, h⟩ hall
    have hbw := hb _ _ _ _ _ h
    obtain ⟨h15, hr⟩ := h.fin (hall 16 (by decide))
    obtain ⟨capw, F, e13, ec, hc1, hc2, hc3⟩ := h.wd.row (hall 3 (by decide))
    refine hK _ _ ?_
    rw [e13] at hr
    obtain ⟨d, hd1, hd2⟩ := row90
    have hl := run_loadVar_mid (P := Tryz.prog) w' (w.heap.size + 1) 0 115 _ d hr hd1 hd2 size90
    have h6 := h.s6
    go_wp2
    refine bodyPost_ret (v := .agg (cellsAt ⟨s0, s1, s2, s3, s4, s5⟩ (.slice (some ⟨blk .words, 0, none⟩) n capw) (.slice aoh nh caph) blk nh).toArray) ?_ h.df ⟨blk, c, capw, F, rfl, h.has, fun r k d x hx => ((h.mks r k d x hx).1 (hall k (by have := mk_key hx; simp; omega))).2, h.rest, ec, hc1, hc2, hc3, hbw⟩
    have h6' : a.tmps[6]?.getD undef = .pointer (some ⟨w.heap.size + 1, 0, none⟩) := by simpa [Act.eval] using h6
    have c := fun j v hv => hr j v hv
    simp only [Nat.zero_add] at c
    have c0 := c 0 _ rfl
    have c1 := c 1 _ rfl
    have c2 := c 2 _ rfl
    have c3 := c 3 _ rfl
    have c4 := c 4 _ rfl
    have c5 := c 5 _ rfl
    have c6 := c 6 _ rfl
    have c7 := c 7 _ rfl
    have c8 := c 8 _ rfl
    have c9 := c 9 _ rfl
    have c10 := c 10 _ rfl
    have c11 := c 11 _ rfl
    have c12 := c 12 _ rfl
    have c13 := c 13 _ rfl
    have c14 := c 14 _ rfl
    clear c hl hr
    simp [results, Tryz.results45, go_sem, h6', c0, c1, c2, c3, c4, c5, c6, c7, c8, c9, c10, c11, c12, c13, c14]
    rfl
  case step =>
    rintro L a w' i o ⟨blk, c, h⟩ ho hL hd
    have hi : i < 17 := by have := (Array.getElem?_eq_some_iff.1 ho).1; simpa using this
    match i, hi with
    | 0, _ =>
      injection ho with ho; subst ho
      obtain ⟨d, hd1, hd2⟩ := row42
      have hsh' : w'.rangeAt w.heap.size 0 [Value.int .i64 s0, .int .i64 s1, .int .i64 s2, .int .i64 s3, .int .i64 s4, .int .i64 s5] := fun j v hv => by
        rw [World.cell?_of_block (a := ⟨w.heap.size, 0 + j, none⟩) (h.tch.block w.heap.size (by omega) (by omega))]
        exact hsh j v hv
      exact wp_load_mid 23 (.tmp 3) rfl w.heap.size 0 h.s3 _ d hsh' hd1 hd2 size42 ⟨blk, c, h.mvStep (k := 0) rfl⟩
    | 1, _ =>
      injection ho with ho; subst ho
      exact wp_lit0 rfl Tryz.underlying24 info46 ⟨_, _, h.litStep (by omega) hL⟩
    | 3, _ =>
      injection ho with ho; subst ho
      have hL1 : L 1 = true := hd ⟨1, .data⟩ (by simp) rfl
      obtain ⟨e11, hnw, F0, ec⟩ := h.wd.lit hL1 hL
      have hbn := hb _ _ _ _ _ h
      have hszw := h.tch.size
      have R0 := h.has.row _ _ ec
      have hown : w'.ownsRow (w.heap.size + 2) 50 1 (.slice (some ⟨blk .words, 0, none⟩) 0 0) 0 [] := owns_of_row (cap := 0) (n := 0) (size := 1) (xs := []) R0 (fun i u hu => by cases hu) rfl (Nat.le_refl _) (Nat.zero_le _) (h.has.new _ _ ec)
      refine wp_append_lit (base := w.heap.size + 2) (n := n) (bytes := 8) (size := 1) (.tmp 11) (.tmp 12) rfl Tryz.underlying24 HI.out hz46 hs46 hy46 rfl (by decide) _ e11 hown ao cap (wordCells n f) (h.mvs 2 12 _ rfl (hd ⟨2, .data⟩ (by simp) rfl)) hN.out (by simp [wordCells]) (Sees.news (hS.out.below hbn (Nat.le_refl _))) (wordCells_one n f) (by unfold maxLen; omega) (by omega) (by omega) ?_
      intro v' w'' ho' hg hnn hat
      obtain ⟨g, cap', F, h'⟩ := h.appStep (by omega) hL1 hL hF.out ho' hg (fun e => by cases hnn e) hat
      exact ⟨_, _, h'⟩
    | 15, _ =>
      injection ho with ho; subst ho
      have L3 : L 3 = true := hd ⟨3, .data⟩ (by simp) rfl
      have hm : ∀ r k d x, mkr nh r = some (k, d, x) → L k = true := fun r k d x hr => by
        have := mk_key hr
        rcases this with ⟨rfl, _⟩ | ⟨rfl, _⟩ | ⟨rfl, _⟩ | ⟨rfl, _⟩ | ⟨rfl, _⟩
        · exact hd ⟨6, .data⟩ (by simp) rfl
        · exact hd ⟨8, .data⟩ (by simp) rfl
        · exact hd ⟨10, .data⟩ (by simp) rfl
        · exact hd ⟨12, .data⟩ (by simp) rfl
        · exact hd ⟨14, .data⟩ (by simp) rfl
      obtain ⟨capw, F, e13, ec, hc1, hc2, hc3⟩ := h.wd.row L3
      have e1 := ((h.mks .tasks 6 16 _ rfl).1 (hm .tasks 6 16 _ rfl)).1
      have e2 := ((h.mks .going 8 18 _ rfl).1 (hm .going 8 18 _ rfl)).1
      have e3 := ((h.mks .run 10 20 _ rfl).1 (hm .run 10 20 _ rfl)).1
      have e4 := ((h.mks .mem 12 22 _ rfl).1 (hm .mem 12 22 _ rfl)).1
      have e5 := ((h.mks .answers 14 24 _ rfl).1 (hm .answers 14 24 _ rfl)).1
      have e0 := h.mvs 0 10 _ rfl (hd ⟨0, .data⟩ (by simp) rfl)
      have eh := h.mvs 4 14 _ rfl (hd ⟨4, .data⟩ (by simp) rfl)
      refine wp_value (build90 w' a.eval _ _ _ _ _ _ _ _ _ _ _ _ _ _ _ _ _ _ _ _ _ _ (.tmp 10) (.tmp 13) (.tmp 14) (.tmp 16) (.tmp 18) (.tmp 20) (.tmp 22) (.tmp 24) _ rfl rfl e0 e13 eh e1 e2 e3 e4 e5) ⟨blk, c, ?_⟩
      have hh := h.bldStep L3 hm hL
      rw [e13] at hh
      exact hh
    | 16, _ =>
      injection ho with ho; subst ho
      have L15 : L 15 = true := hd ⟨15, .data⟩ (by simp) rfl
      have hh := h.stoStep L15
      obtain ⟨capw, F, e13, ec, hc1, hc2, hc3⟩ := h.wd.row (h.bld L15).1.1
      refine wp_store_mid 115 (.tmp 6) (.tmp 25) rfl (w.heap.size + 1) 0 _ h.s6 (h.bld L15).2 h.th size90 ?_ ⟨blk, c, hh⟩
      rw [e13]
      simp [cellsAt, runCells, sl, Value.oneCell']
    | 2, _ => injection ho with ho; subst ho; exact wp_move (.tmp 1) rfl ⟨blk, c, by rw [h.s1]; exact h.mvStep (k := 2) rfl⟩
    | 4, _ => injection ho with ho; subst ho; exact wp_move (.tmp 2) rfl ⟨blk, c, by rw [h.s2]; exact h.mvStep (k := 4) rfl⟩
    | 5, _ => injection ho with ho; subst ho; exact wp_move (.tmp 7) rfl ⟨blk, c, by rw [h.s7]; exact h.mvStep (k := 5) rfl⟩
    | 7, _ => injection ho with ho; subst ho; exact wp_move (.tmp 7) rfl ⟨blk, c, by rw [h.s7]; exact h.mvStep (k := 7) rfl⟩
    | 9, _ => injection ho with ho; subst ho; exact wp_move (.tmp 7) rfl ⟨blk, c, by rw [h.s7]; exact h.mvStep (k := 9) rfl⟩
    | 11, _ => injection ho with ho; subst ho; exact wp_move (.tmp 7) rfl ⟨blk, c, by rw [h.s7]; exact h.mvStep (k := 11) rfl⟩
    | 13, _ => injection ho with ho; subst ho; exact wp_move (.tmp 7) rfl ⟨blk, c, by rw [h.s7]; exact h.mvStep (k := 13) rfl⟩
    | 6, _ => injection ho with ho; subst ho; exact wp_make (.tmp 15) rfl (h.mvs 5 15 _ rfl (hd ⟨5, .data⟩ (by simp) rfl)) Tryz.underlying54 info76 (by omega) (by omega) ⟨_, _, h.mkStep (by omega) (r := .tasks) rfl hL (rowIs_madeN w' _ _ _) ((Touch.refl w' _).alloc _)⟩
    | 8, _ => injection ho with ho; subst ho; exact wp_make (.tmp 17) rfl (h.mvs 7 17 _ rfl (hd ⟨7, .data⟩ (by simp) rfl)) Tryz.underlying112 info4r (by omega) (by omega) ⟨_, _, h.mkStep (by omega) (r := .going) rfl hL (rowIs_madeN w' _ _ _) ((Touch.refl w' _).alloc _)⟩
    | 10, _ => injection ho with ho; subst ho; exact wp_make (.tmp 19) rfl (h.mvs 9 19 _ rfl (hd ⟨9, .data⟩ (by simp) rfl)) Tryz.underlying26 info3r (by omega) (by omega) ⟨_, _, h.mkStep (by omega) (r := .run) rfl hL (rowIs_madeN w' _ _ _) ((Touch.refl w' _).alloc _)⟩
    | 12, _ => injection ho with ho; subst ho; exact wp_make (.tmp 21) rfl (h.mvs 11 21 _ rfl (hd ⟨11, .data⟩ (by simp) rfl)) Tryz.underlying113 info77r (by omega) (by omega) ⟨_, _, h.mkStep (by omega) (r := .mem) rfl hL (rowIs_madeN w' _ _ _) ((Touch.refl w' _).alloc _)⟩
    | 14, _ => injection ho with ho; subst ho; exact wp_make (.tmp 23) rfl (h.mvs 13 23 _ rfl (hd ⟨13, .data⟩ (by simp) rfl)) Tryz.underlying33 info47r (by omega) (by omega) ⟨_, _, h.mkStep (by omega) (r := .answers) rfl hL (rowIs_madeN w' _ _ _) ((Touch.refl w' _).alloc _)⟩
end
end Go.Proofs.YtppgbndoijppnaaGreat
