/-
  Lemmas: L16Kept.
-/
import Derived.Test.YtnodkeoikamonaaGreatTp44
import Derived.Test.YtnodkeoikamonaaGreatTp20
/-
  What was lent is as it was: the law's own look at it.
-/
namespace Go.Proofs.YtnodkeoikamonaaGreat
open Go.RowKit
set_option linter.unusedVariables false
set_option linter.unusedSimpArgs false
set_option linter.unnecessarySimpa false
set_option maxRecDepth 20000
namespace L16
def markJ (n : Nat) (j : Nat → Jb) : Nat → Jb := fun i => if i < n then j i else ⟨777, 0, 0, 0, 0⟩
structure Lent (B : Nat) (w : World) (P : Par) (f : Nat → Int) (gw cw gh ch gs cs : Nat) : Prop where
  W : ∀ i, i < P.n + 1 → w.cell? ⟨gw, i, none⟩ = some (.int .u64 (marked P.n f i))
  I : ∀ i, i < P.ns + 1 → w.cell? ⟨gs, i, none⟩ = some (.int .i64 (markI P.ns P.sched i))
  H : ∀ h, h < P.nh → ∃ b cap, w.cell? ⟨gh, h, none⟩ = some (.slice (some ⟨b, 0, none⟩) (P.jn h) cap) ∧ P.jn h < cap ∧ b < B ∧ ∀ i, i < P.jn h + 1 → ∀ q, q < 5 → w.cell? ⟨b, i * 5 + q, none⟩ = some ((markJ (P.jn h) (P.jb h) i).cell q)
  M : ∃ b cap, w.cell? ⟨gh, P.nh, none⟩ = some (.slice (some ⟨b, 0, none⟩) 1 cap) ∧ b < B ∧ w.cell? ⟨b, 0, none⟩ = some (.int .i64 778)
  cw : P.n < cw
  ch : P.nh < ch
  cs : P.ns < cs
  lw : gw < B
  lh : gh < B
  ls : gs < B
variable {B : Nat} {w w' : World} {P : Par} {f : Nat → Int} {gw cw gh ch gs cs : Nat} {ao aoh aos : Option Addr} {cap caph caps : Nat}
theorem Lent.keep (K : Lent B w P f gw cw gh ch gs cs) (hb : ∀ k, k < B → w'.heap[k]? = w.heap[k]?) : Lent B w' P f gw cw gh ch gs cs := by
  have c : ∀ b o, b < B → w'.cell? ⟨b, o, none⟩ = w.cell? ⟨b, o, none⟩ := fun b o h => World.cell?_of_block (a := ⟨b, o, none⟩) (hb b h)
  refine ⟨fun i hi => (c _ _ K.lw).trans (K.W i hi), fun i hi => (c _ _ K.ls).trans (K.I i hi), fun h hh => ?_, ?_, K.cw, K.ch, K.cs, K.lw, K.lh, K.ls⟩
  · obtain ⟨b, cap, e1, e2, e3, e4⟩ := K.H h hh
    exact ⟨b, cap, (c _ _ K.lh).trans e1, e2, e3, fun i hi q hq => (c _ _ e3).trans (e4 i hi q hq)⟩
  · obtain ⟨b, cap, e1, e2, e3⟩ := K.M
    exact ⟨b, cap, (c _ _ K.lh).trans e1, e2, (c _ _ e2).trans e3⟩
theorem Lent.sees (K : Lent B w P f gw cw gh ch gs cs) : Sees w B (some ⟨gw, 0, none⟩) P.n f := fun j hj => by
  refine ⟨gw, 0, rfl, K.lw, ?_⟩
  rw [Nat.zero_add, K.W j (by omega)]
  simp [marked, hj]
theorem Lent.seesI (K : Lent B w P f gw cw gh ch gs cs) : SeesI w B (some ⟨gs, 0, none⟩) P.ns P.sched := fun j hj => by
  refine ⟨gs, 0, rfl, K.ls, ?_⟩
  rw [Nat.zero_add, K.I j (by omega)]
  simp [markI, hj]
theorem Lent.seesH (K : Lent B w P f gw cw gh ch gs cs) : SeesH w B (some ⟨gh, 0, none⟩) P.nh P.jn P.jb := fun h hh => by
  obtain ⟨b, cap, e1, e2, e3, e4⟩ := K.H h hh
  refine ⟨gh, 0, some ⟨b, 0, none⟩, cap, rfl, K.lh, by rw [Nat.zero_add]; exact e1, fun i hi => ⟨b, 0, rfl, e3, fun q hq => ?_⟩⟩
  rw [Nat.zero_add, e4 i (by omega) q hq]
  simp [markJ, hi]
theorem meas_lt {a b : Nat} (h : b < a) : a - (b + 1) < a - b := by omega
theorem exq_nej {ev : Operand → Value} {o : Oper} {w : World} {x y : Operand} {j0 j1 j2 j3 j4 : Int} (ho : o.op = .binOp .neq 52 x y 52) (hx : ev x = .agg #[.int .i64 j0, .int .i64 j1, .int .i64 j2, .int .i64 j3, .int .u64 j4]) (hy : ev y = .agg #[.int .i64 j0, .int .i64 j1, .int .i64 j2, .int .i64 j3, .int .u64 j4]) : (execOp ev o).run Tryz.prog w = .ok (.value (.bool false)) w := by
  simp [execOp, ho, hx, hy, go_sem]
theorem szU : (Tryz.prog.info? 50).map (·.size) = some 1 := by kernel_rfl
theorem szIn : (Tryz.prog.info? 3).map (·.size) = some 1 := by kernel_rfl
theorem szSl : (Tryz.prog.info? 60).map (·.size) = some 1 := by kernel_rfl
theorem szJb : (Tryz.prog.info? 52).map (·.size) = some 5 := by kernel_rfl
theorem agg_sl (w : World) : (isAgg 60).run Tryz.prog w = .ok false w := by simp [go_sem]
theorem fieldJ0 (w : World) (b o : Nat) : (Instr.fieldAt 52 (.pointer (some ⟨b, o, none⟩)) 0).run Tryz.prog w = .ok (.pointer (some ⟨b, o, none⟩)) w := by simp [go_sem]
theorem callSame (args : Array Value) (w : World) : (callFunc 26 args).run Tryz.prog w = .ok (.enter 26 args) w := by simp [go_sem]
theorem drewN_drewN (w : World) (m m' : Nat) : (w.drewN m).drewN m' = w.drewN (m + m') := by simp [World.drewN, Nat.add_assoc]
theorem kept_row (K : Lent B w P f gw cw gh ch gs cs) (hB : B ≤ w.heap.size) (SH : SeesH w w.heap.size aoh P.nh P.jn P.jb) (hjn : ∀ h, h < P.nh → P.jn h ≤ 4611686018427387904) : ∀ wr, Below w.heap.size w wr → ∀ k, k < P.nh →
    ∃ (bh offh : Nat) (av : Option Addr) (cv bk capk jk jk1 : Nat) (pj : Nat → Jb), aoh = some ⟨bh, offh, none⟩ ∧ wr.cell? ⟨bh, offh + k, none⟩ = some (.slice av jk cv) ∧ SeesJ wr w.heap.size av jk pj ∧ wr.cell? ⟨gh, k, none⟩ = some (.slice (some ⟨bk, 0, none⟩) jk capk) ∧ wr.cell? ⟨bk, jk * 5, none⟩ = some (.int .i64 777) ∧
      (∀ wr', Below w.heap.size w wr' → wr'.cell? ⟨gh, k, none⟩ = some (.slice (some ⟨bk, 0, none⟩) jk capk) ∧ ∀ i, i < jk → ∃ bj oj, av = some ⟨bj, oj, none⟩ ∧ ∀ q, q < 5 → wr'.cell? ⟨bk, i * 5 + q, none⟩ = some (Jb.cell (pj i) q) ∧ wr'.cell? ⟨bj, oj + i * 5 + q, none⟩ = some (Jb.cell (pj i) q)) ∧
      wrap64 ((jk : Int) + 1) = (jk1 : Int) ∧ jk < jk1 ∧ jk1 ≤ capk ∧ jk ≤ 4611686018427387904 := by
  intro wr hb k hlt
  have KW := K.keep (w' := wr) (fun q hq => hb.block q (by omega))
  obtain ⟨bh, offh, av, cv, e0, hl1, hc1, hj1⟩ := (SH.below hb (Nat.le_refl _)) k hlt
  obtain ⟨bk, capk, e1, e2, e3, e4⟩ := KW.H k hlt
  have hjk := hjn k hlt
  refine ⟨bh, offh, av, cv, bk, capk, P.jn k, P.jn k + 1, P.jb k, e0, hc1, hj1, e1, ?_, fun wr' hb' => ⟨?_, fun i hi => ?_⟩, ?_, by omega, e2, hjk⟩
  · have := e4 (P.jn k) (by omega) 0 (by decide)
    simpa [markJ, Jb.cell] using this
  · have KW' := K.keep (w' := wr') (fun q hq => hb'.block q (by omega))
    obtain ⟨bk', capk', e1', _⟩ := KW'.H k hlt
    have c0 : wr'.cell? ⟨gh, k, none⟩ = wr.cell? ⟨gh, k, none⟩ := ((hb'.cell (p := ⟨gh, k, none⟩) (show gh < w.heap.size by have := K.lh; omega))).trans (hb.cell (p := ⟨gh, k, none⟩) (show gh < w.heap.size by have := K.lh; omega)).symm
    exact c0.trans e1
  · obtain ⟨bj, oj, ej, hlj, hcj⟩ := hj1 i hi
    refine ⟨bj, oj, ej, fun q hq => ⟨?_, ?_⟩⟩
    · have c0 : wr'.cell? ⟨bk, i * 5 + q, none⟩ = wr.cell? ⟨bk, i * 5 + q, none⟩ := ((hb'.cell (p := ⟨bk, i * 5 + q, none⟩) (show bk < w.heap.size by omega))).trans (hb.cell (p := ⟨bk, i * 5 + q, none⟩) (show bk < w.heap.size by omega)).symm
      rw [c0, e4 i (by omega) q hq]
      simp [markJ, hi]
    · have c0 : wr'.cell? ⟨bj, oj + i * 5 + q, none⟩ = wr.cell? ⟨bj, oj + i * 5 + q, none⟩ := ((hb'.cell (p := ⟨bj, oj + i * 5 + q, none⟩) (show bj < w.heap.size by omega))).trans (hb.cell (p := ⟨bj, oj + i * 5 + q, none⟩) (show bj < w.heap.size by omega)).symm
      rw [c0]
      exact hcj q hq
  · unfold wrap64
    omega
theorem kept_num (K : Lent B w P f gw cw gh ch gs cs) (hB : B ≤ w.heap.size) (SI : SeesI w w.heap.size aos P.ns P.sched) : ∀ wr, Below w.heap.size w wr → ∀ q, q < P.ns → ∃ bi offi sq, aos = some ⟨bi, offi, none⟩ ∧ wr.cell? ⟨bi, offi + q, none⟩ = some (.int .i64 sq) ∧ wr.cell? ⟨gs, q, none⟩ = some (.int .i64 sq) := by
  intro wr hb q hq
  obtain ⟨b, off, e, hl, hc⟩ := SI q hq
  refine ⟨b, off, P.sched q, e, (hb.cell (p := ⟨b, off + q, none⟩) hl).trans hc, (hb.cell (p := ⟨gs, q, none⟩) (show gs < w.heap.size by have := K.ls; omega)).trans ?_⟩
  rw [K.I q (by omega)]
  simp [markI, hq]
set_option maxHeartbeats 8000000 in
theorem kept_any (K : Lent B w P f gw cw gh ch gs cs) (hB : B ≤ w.heap.size) (S : Sees w w.heap.size ao P.n f) (SH : SeesH w w.heap.size aoh P.nh P.jn P.jb) (SI : SeesI w w.heap.size aos P.ns P.sched) (hn : P.n ≤ 4611686018427387904) (hnh : P.nh ≤ 4611686018427387904) (hns : P.ns ≤ 4611686018427387904) (hjn : ∀ h, h < P.nh → P.jn h ≤ 4611686018427387904) :
    Calls Tryz.prog 12 #[.slice (some ⟨gw, 0, none⟩) P.n cw, .slice ao P.n cap, .slice (some ⟨gh, 0, none⟩) P.nh ch, .slice aoh P.nh caph, .slice (some ⟨gs, 0, none⟩) P.ns cs, .slice aos P.ns caps] w fun e w' => e = .returned (.bool true) ∧ Below w.heap.size w w' := by
  obtain ⟨bM, capM, m1, m2, m3⟩ := K.M
  have HSW := hide (fun m : Nat => same_words (w := w.drewN m) (cap := cw) (cap' := cap) (show Sees (w.drewN m) B _ _ _ from K.sees) (show Sees (w.drewN m) w.heap.size _ _ _ from S) (fun _ _ => rfl) (by omega))
  have kW : w.cell? ⟨gw, P.n, none⟩ = some (.int .u64 11259375) := by rw [K.W P.n (by omega)]; simp [marked]
  have kI : w.cell? ⟨gs, P.ns, none⟩ = some (.int .i64 (-777)) := by rw [K.I P.ns (by omega)]; simp [markI]
  obtain ⟨n1, hn1⟩ : ∃ n1, P.n + 1 = n1 := ⟨_, rfl⟩
  obtain ⟨nh1, hnh1⟩ : ∃ n1, P.nh + 1 = n1 := ⟨_, rfl⟩
  obtain ⟨ns1, hns1⟩ : ∃ n1, P.ns + 1 = n1 := ⟨_, rfl⟩
  have gcw : n1 ≤ cw := by have := K.cw; omega
  have gch : nh1 ≤ ch := by have := K.ch; omega
  have gcs : ns1 ≤ cs := by have := K.cs; omega
  have a1 : wrap64 ((P.n : Int) + 1) = (n1 : Int) := by unfold wrap64; omega
  have a2 : wrap64 ((P.nh : Int) + 1) = (nh1 : Int) := by unfold wrap64; omega
  have a3 : wrap64 ((P.ns : Int) + 1) = (ns1 : Int) := by unfold wrap64; omega
  have b1 : P.n < n1 := by omega
  have b2 : P.nh < nh1 := by omega
  have b3 : P.ns < ns1 := by omega
  have KR := hide (kept_row K hB SH hjn)
  have KI := hide (kept_num K hB SI)
  clear K S SH SI hjn
  go_enter Tryz.func12, Tryz.ntmps12
  apply wp_seq_k
  intro K0 hK0
  have HK0 := hide hK0
  clear hK0
  go_wp2_with fail
  refine HK0.out _ _ ?_
  clear HK0
  repeat (apply wp_seq_k; intro _ _)
  refine RSq.region (ks := [(0, 19), (1, 20), (2, 21), (3, 22), (4, 23), (5, 24), (6, 25), (7, 26), (8, 27), (9, 28), (10, 29), (11, 30), (12, 31), (13, 32), (14, 33), (15, 34), (16, 35), (17, 36), (18, 37), (19, 38), (20, 39), (21, 40), (22, 41), (23, 42), (24, 43), (25, 44), (26, 45), (27, 46), (28, 47), (29, 48), (30, 49), (31, 50), (32, 51), (33, 52), (34, 53), (35, 54), (36, 55), (37, 56), (38, 57), (39, 58), (40, 59), (41, 60), (42, 61), (43, 62), (44, 63), (45, 64), (46, 65), (47, 66), (48, 67), (49, 68), (50, 69), (51, 70), (52, 71), (53, 72), (54, 73), (55, 74), (56, 75)]) (vals := fun i => match i with
        | 0 => .slice (some ⟨gw, 0, none⟩) P.n cw
        | 1 => .slice ao P.n cap
        | 2 => .bool true
        | 3 => .bool false
        | 4 => .bool false
        | 5 => .slice (some ⟨gw, 0, none⟩) P.n cw
        | 6 => .slice ao P.n cap
        | 7 => .int .i64 (P.n : Int)
        | 8 => .int .i64 (n1 : Int)
        | 9 => .slice (some ⟨gw, 0, none⟩) n1 cw
        | 10 => .slice ao P.n cap
        | 11 => .int .i64 (P.n : Int)
        | 12 => .pointer (some ⟨gw, 0 + P.n * 1, none⟩)
        | 13 => .int .u64 11259375
        | 14 => .bool false
        | 15 => .bool false
        | 16 => .bool false
        | 17 => .slice (some ⟨gh, 0, none⟩) P.nh ch
        | 18 => .int .i64 (P.nh : Int)
        | 19 => .slice aoh P.nh caph
        | 20 => .int .i64 (P.nh : Int)
        | 21 => .bool false
        | 22 => .bool false
        | 23 => .bool false
        | 24 => .slice (some ⟨gs, 0, none⟩) P.ns cs
        | 25 => .int .i64 (P.ns : Int)
        | 26 => .slice aos P.ns caps
        | 27 => .int .i64 (P.ns : Int)
        | 28 => .bool false
        | 29 => .bool false
        | 30 => .bool false
        | 31 => .slice (some ⟨gs, 0, none⟩) P.ns cs
        | 32 => .slice (some ⟨gs, 0, none⟩) P.ns cs
        | 33 => .int .i64 (P.ns : Int)
        | 34 => .int .i64 (ns1 : Int)
        | 35 => .slice (some ⟨gs, 0, none⟩) ns1 cs
        | 36 => .slice (some ⟨gs, 0, none⟩) P.ns cs
        | 37 => .int .i64 (P.ns : Int)
        | 38 => .pointer (some ⟨gs, 0 + P.ns * 1, none⟩)
        | 39 => .int .i64 (-777)
        | 40 => .bool false
        | 41 => .bool false
        | 42 => .bool false
        | 43 => .slice (some ⟨gh, 0, none⟩) P.nh ch
        | 44 => .slice (some ⟨gh, 0, none⟩) P.nh ch
        | 45 => .int .i64 (P.nh : Int)
        | 46 => .int .i64 (nh1 : Int)
        | 47 => .slice (some ⟨gh, 0, none⟩) nh1 ch
        | 48 => .slice (some ⟨gh, 0, none⟩) P.nh ch
        | 49 => .int .i64 (P.nh : Int)
        | 50 => .pointer (some ⟨gh, 0 + P.nh * 1, none⟩)
        | 51 => .slice (some ⟨bM, 0, none⟩) 1 capM
        | 52 => .pointer (some ⟨bM, 0 + 0 * 5, none⟩)
        | 53 => .pointer (some ⟨bM, 0 + 0 * 5, none⟩)
        | 54 => .int .i64 778
        | 55 => .bool false
        | 56 => .bool false
        | _ => undef) (WI := fun w' => ∃ m, w' = w.drewN m) rfl ?dd1 ⟨0, rfl⟩ ?does1 ?fin1
  case dd1 =>
    intro q hq
    have hq' : q < 139 := by
      simp [RetN.D] at hq
      omega
    simpa using hq'
  case does1 =>
    intro i o ho
    have hi : i < 57 := by have := (Array.getElem?_eq_some_iff.1 ho).1; simpa using this
    match i, hi with
    | 0, _ => injection ho with ho; subst ho; exact RSq.Does.read rfl (RSq.free rfl) (fun a w' hI => ex_move rfl (hI.fix 0 (Reg.notD rfl)))
    | 1, _ => injection ho with ho; subst ho; exact RSq.Does.read rfl (RSq.free rfl) (fun a w' hI => ex_move rfl (hI.fix 1 (Reg.notD rfl)))
    | 2, _ => injection ho with ho; subst ho; exact RSq.Does.call rfl (RSq.free rfl) (fun a w' hI => call2 rfl (hI.pure 0 _ _ rfl (by decide)) (hI.pure 1 _ _ rfl (by decide)) rfl (callSame _ _)) (fun w' ⟨m, e⟩ => by rw [e]; refine (HSW.out m).mono ?_; rintro e' w1 ⟨rfl, m', rfl⟩; exact ⟨rfl, _, drewN_drewN w m m'⟩)
    | 3, _ => injection ho with ho; subst ho; exact RSq.Does.read rfl (RSq.free rfl) (fun a w' hI => exq_not rfl (hI.pure 2 _ _ rfl (by decide)))
    | 4, _ => injection ho with ho; subst ho; exact RSq.Does.read rfl (RSq.free rfl) (fun a w' hI => ex_move rfl (hI.pure 3 _ _ rfl (by decide)))
    | 5, _ => injection ho with ho; subst ho; exact RSq.Does.read rfl (RSq.held (j := 4) (d := 23) rfl rfl (by decide) rfl (by simp)) (fun a w' hI => ex_move rfl (hI.fix 0 (Reg.notD rfl)))
    | 6, _ => injection ho with ho; subst ho; exact RSq.Does.read rfl (RSq.held (j := 4) (d := 23) rfl rfl (by decide) rfl (by simp)) (fun a w' hI => ex_move rfl (hI.fix 1 (Reg.notD rfl)))
    | 7, _ => injection ho with ho; subst ho; exact RSq.Does.read rfl (RSq.held (j := 4) (d := 23) rfl rfl (by decide) rfl (by simp)) (fun a w' hI => exq_lenW rfl (hI.pure 6 _ _ rfl (by decide)))
    | 8, _ => injection ho with ho; subst ho; exact RSq.Does.read rfl (RSq.held (j := 4) (d := 23) rfl rfl (by decide) rfl (by simp)) (fun a w' hI => exq_add1 rfl (hI.pure 7 _ _ rfl (by decide)) rfl a1)
    | 9, _ => injection ho with ho; subst ho; exact RSq.Does.read rfl (RSq.held (j := 4) (d := 23) rfl rfl (by decide) rfl (by simp)) (fun a w' hI => exq_cutW rfl (hI.pure 5 _ _ rfl (by decide)) (hI.pure 8 _ _ rfl (by decide)) gcw)
    | 10, _ => injection ho with ho; subst ho; exact RSq.Does.read rfl (RSq.held (j := 4) (d := 23) rfl rfl (by decide) rfl (by simp)) (fun a w' hI => ex_move rfl (hI.fix 1 (Reg.notD rfl)))
    | 11, _ => injection ho with ho; subst ho; exact RSq.Does.read rfl (RSq.held (j := 4) (d := 23) rfl rfl (by decide) rfl (by simp)) (fun a w' hI => exq_lenW rfl (hI.pure 10 _ _ rfl (by decide)))
    | 12, _ => injection ho with ho; subst ho; exact RSq.Does.read rfl (RSq.held (j := 4) (d := 23) rfl rfl (by decide) rfl (by simp)) (fun a w' hI => ex_index (i := P.n) rfl (hI.pure 9 _ _ rfl (by decide)) (hI.pure 11 _ _ rfl (by decide)) b1 Tryz.underlying24 szU)
    | 13, _ => injection ho with ho; subst ho; exact RSq.Does.read rfl (RSq.held (j := 4) (d := 23) rfl rfl (by decide) rfl (by simp)) (fun a w' hI => ex_load rfl (hI.pure 12 _ _ rfl (by decide)) (agg_u64 w') (by obtain ⟨m, e⟩ := hI.world; rw [e]; have := kW; simpa using this))
    | 14, _ => injection ho with ho; subst ho; exact RSq.Does.read rfl (RSq.held (j := 4) (d := 23) rfl rfl (by decide) rfl (by simp)) (fun a w' hI => exq_neu rfl (hI.pure 13 _ _ rfl (by decide)) rfl rfl)
    | 15, _ => injection ho with ho; subst ho; exact RSq.Does.read rfl (RSq.free rfl) (fun a w' hI => exq_pick rfl (hI.pure 4 _ _ rfl (by decide)) (hI.pure 14 _ _ rfl (by decide)))
    | 16, _ => injection ho with ho; subst ho; exact RSq.Does.read rfl (RSq.free rfl) (fun a w' hI => ex_move rfl (hI.pure 15 _ _ rfl (by decide)))
    | 17, _ => injection ho with ho; subst ho; exact RSq.Does.read rfl (RSq.held (j := 16) (d := 35) rfl rfl (by decide) rfl (by simp)) (fun a w' hI => ex_move rfl (hI.fix 2 (Reg.notD rfl)))
    | 18, _ => injection ho with ho; subst ho; exact RSq.Does.read rfl (RSq.held (j := 16) (d := 35) rfl rfl (by decide) rfl (by simp)) (fun a w' hI => exq_lenH rfl (hI.pure 17 _ _ rfl (by decide)))
    | 19, _ => injection ho with ho; subst ho; exact RSq.Does.read rfl (RSq.held (j := 16) (d := 35) rfl rfl (by decide) rfl (by simp)) (fun a w' hI => ex_move rfl (hI.fix 3 (Reg.notD rfl)))
    | 20, _ => injection ho with ho; subst ho; exact RSq.Does.read rfl (RSq.held (j := 16) (d := 35) rfl rfl (by decide) rfl (by simp)) (fun a w' hI => exq_lenH rfl (hI.pure 19 _ _ rfl (by decide)))
    | 21, _ => injection ho with ho; subst ho; exact RSq.Does.read rfl (RSq.held (j := 16) (d := 35) rfl rfl (by decide) rfl (by simp)) (fun a w' hI => exq_nei rfl (hI.pure 18 _ _ rfl (by decide)) (hI.pure 20 _ _ rfl (by decide)) rfl)
    | 22, _ => injection ho with ho; subst ho; exact RSq.Does.read rfl (RSq.free rfl) (fun a w' hI => exq_pick rfl (hI.pure 16 _ _ rfl (by decide)) (hI.pure 21 _ _ rfl (by decide)))
    | 23, _ => injection ho with ho; subst ho; exact RSq.Does.read rfl (RSq.free rfl) (fun a w' hI => ex_move rfl (hI.pure 22 _ _ rfl (by decide)))
    | 24, _ => injection ho with ho; subst ho; exact RSq.Does.read rfl (RSq.held (j := 23) (d := 42) rfl rfl (by decide) rfl (by simp)) (fun a w' hI => ex_move rfl (hI.fix 4 (Reg.notD rfl)))
    | 25, _ => injection ho with ho; subst ho; exact RSq.Does.read rfl (RSq.held (j := 23) (d := 42) rfl rfl (by decide) rfl (by simp)) (fun a w' hI => exq_lenI rfl (hI.pure 24 _ _ rfl (by decide)))
    | 26, _ => injection ho with ho; subst ho; exact RSq.Does.read rfl (RSq.held (j := 23) (d := 42) rfl rfl (by decide) rfl (by simp)) (fun a w' hI => ex_move rfl (hI.fix 5 (Reg.notD rfl)))
    | 27, _ => injection ho with ho; subst ho; exact RSq.Does.read rfl (RSq.held (j := 23) (d := 42) rfl rfl (by decide) rfl (by simp)) (fun a w' hI => exq_lenI rfl (hI.pure 26 _ _ rfl (by decide)))
    | 28, _ => injection ho with ho; subst ho; exact RSq.Does.read rfl (RSq.held (j := 23) (d := 42) rfl rfl (by decide) rfl (by simp)) (fun a w' hI => exq_nei rfl (hI.pure 25 _ _ rfl (by decide)) (hI.pure 27 _ _ rfl (by decide)) rfl)
    | 29, _ => injection ho with ho; subst ho; exact RSq.Does.read rfl (RSq.free rfl) (fun a w' hI => exq_pick rfl (hI.pure 23 _ _ rfl (by decide)) (hI.pure 28 _ _ rfl (by decide)))
    | 30, _ => injection ho with ho; subst ho; exact RSq.Does.read rfl (RSq.free rfl) (fun a w' hI => ex_move rfl (hI.pure 29 _ _ rfl (by decide)))
    | 31, _ => injection ho with ho; subst ho; exact RSq.Does.read rfl (RSq.held (j := 30) (d := 49) rfl rfl (by decide) rfl (by simp)) (fun a w' hI => ex_move rfl (hI.fix 4 (Reg.notD rfl)))
    | 32, _ => injection ho with ho; subst ho; exact RSq.Does.read rfl (RSq.held (j := 30) (d := 49) rfl rfl (by decide) rfl (by simp)) (fun a w' hI => ex_move rfl (hI.fix 4 (Reg.notD rfl)))
    | 33, _ => injection ho with ho; subst ho; exact RSq.Does.read rfl (RSq.held (j := 30) (d := 49) rfl rfl (by decide) rfl (by simp)) (fun a w' hI => exq_lenI rfl (hI.pure 32 _ _ rfl (by decide)))
    | 34, _ => injection ho with ho; subst ho; exact RSq.Does.read rfl (RSq.held (j := 30) (d := 49) rfl rfl (by decide) rfl (by simp)) (fun a w' hI => exq_add1 rfl (hI.pure 33 _ _ rfl (by decide)) rfl a3)
    | 35, _ => injection ho with ho; subst ho; exact RSq.Does.read rfl (RSq.held (j := 30) (d := 49) rfl rfl (by decide) rfl (by simp)) (fun a w' hI => exq_cutI rfl (hI.pure 31 _ _ rfl (by decide)) (hI.pure 34 _ _ rfl (by decide)) gcs)
    | 36, _ => injection ho with ho; subst ho; exact RSq.Does.read rfl (RSq.held (j := 30) (d := 49) rfl rfl (by decide) rfl (by simp)) (fun a w' hI => ex_move rfl (hI.fix 4 (Reg.notD rfl)))
    | 37, _ => injection ho with ho; subst ho; exact RSq.Does.read rfl (RSq.held (j := 30) (d := 49) rfl rfl (by decide) rfl (by simp)) (fun a w' hI => exq_lenI rfl (hI.pure 36 _ _ rfl (by decide)))
    | 38, _ => injection ho with ho; subst ho; exact RSq.Does.read rfl (RSq.held (j := 30) (d := 49) rfl rfl (by decide) rfl (by simp)) (fun a w' hI => ex_index (i := P.ns) rfl (hI.pure 35 _ _ rfl (by decide)) (hI.pure 37 _ _ rfl (by decide)) b3 Tryz.underlying26 szIn)
    | 39, _ => injection ho with ho; subst ho; exact RSq.Does.read rfl (RSq.held (j := 30) (d := 49) rfl rfl (by decide) rfl (by simp)) (fun a w' hI => ex_load rfl (hI.pure 38 _ _ rfl (by decide)) (agg_i w') (by obtain ⟨m, e⟩ := hI.world; rw [e]; have := kI; simpa using this))
    | 40, _ => injection ho with ho; subst ho; exact RSq.Does.read rfl (RSq.held (j := 30) (d := 49) rfl rfl (by decide) rfl (by simp)) (fun a w' hI => exq_nei rfl (hI.pure 39 _ _ rfl (by decide)) rfl rfl)
    | 41, _ => injection ho with ho; subst ho; exact RSq.Does.read rfl (RSq.free rfl) (fun a w' hI => exq_pick rfl (hI.pure 30 _ _ rfl (by decide)) (hI.pure 40 _ _ rfl (by decide)))
    | 42, _ => injection ho with ho; subst ho; exact RSq.Does.read rfl (RSq.free rfl) (fun a w' hI => ex_move rfl (hI.pure 41 _ _ rfl (by decide)))
    | 43, _ => injection ho with ho; subst ho; exact RSq.Does.read rfl (RSq.held (j := 42) (d := 61) rfl rfl (by decide) rfl (by simp)) (fun a w' hI => ex_move rfl (hI.fix 2 (Reg.notD rfl)))
    | 44, _ => injection ho with ho; subst ho; exact RSq.Does.read rfl (RSq.held (j := 42) (d := 61) rfl rfl (by decide) rfl (by simp)) (fun a w' hI => ex_move rfl (hI.fix 2 (Reg.notD rfl)))
    | 45, _ => injection ho with ho; subst ho; exact RSq.Does.read rfl (RSq.held (j := 42) (d := 61) rfl rfl (by decide) rfl (by simp)) (fun a w' hI => exq_lenH rfl (hI.pure 44 _ _ rfl (by decide)))
    | 46, _ => injection ho with ho; subst ho; exact RSq.Does.read rfl (RSq.held (j := 42) (d := 61) rfl rfl (by decide) rfl (by simp)) (fun a w' hI => exq_add1 rfl (hI.pure 45 _ _ rfl (by decide)) rfl a2)
    | 47, _ => injection ho with ho; subst ho; exact RSq.Does.read rfl (RSq.held (j := 42) (d := 61) rfl rfl (by decide) rfl (by simp)) (fun a w' hI => exq_cutH rfl (hI.pure 43 _ _ rfl (by decide)) (hI.pure 46 _ _ rfl (by decide)) gch)
    | 48, _ => injection ho with ho; subst ho; exact RSq.Does.read rfl (RSq.held (j := 42) (d := 61) rfl rfl (by decide) rfl (by simp)) (fun a w' hI => ex_move rfl (hI.fix 2 (Reg.notD rfl)))
    | 49, _ => injection ho with ho; subst ho; exact RSq.Does.read rfl (RSq.held (j := 42) (d := 61) rfl rfl (by decide) rfl (by simp)) (fun a w' hI => exq_lenH rfl (hI.pure 48 _ _ rfl (by decide)))
    | 50, _ => injection ho with ho; subst ho; exact RSq.Does.read rfl (RSq.held (j := 42) (d := 61) rfl rfl (by decide) rfl (by simp)) (fun a w' hI => ex_index (i := P.nh) rfl (hI.pure 47 _ _ rfl (by decide)) (hI.pure 49 _ _ rfl (by decide)) b2 Tryz.underlying25 szSl)
    | 51, _ => injection ho with ho; subst ho; exact RSq.Does.read rfl (RSq.held (j := 42) (d := 61) rfl rfl (by decide) rfl (by simp)) (fun a w' hI => ex_load rfl (hI.pure 50 _ _ rfl (by decide)) (agg_sl w') (by obtain ⟨m, e⟩ := hI.world; rw [e]; have := m1; simpa using this))
    | 52, _ => injection ho with ho; subst ho; exact RSq.Does.read rfl (RSq.held (j := 42) (d := 61) rfl rfl (by decide) rfl (by simp)) (fun a w' hI => ex_index (i := 0) rfl (hI.pure 51 _ _ rfl (by decide)) rfl (by decide) Tryz.underlying60 szJb)
    | 53, _ => injection ho with ho; subst ho; exact RSq.Does.read rfl (RSq.held (j := 42) (d := 61) rfl rfl (by decide) rfl (by simp)) (fun a w' hI => ex_fieldo rfl (hI.pure 52 _ _ rfl (by decide)) (fieldJ0 w' _ _))
    | 54, _ => injection ho with ho; subst ho; exact RSq.Does.read rfl (RSq.held (j := 42) (d := 61) rfl rfl (by decide) rfl (by simp)) (fun a w' hI => ex_load rfl (hI.pure 53 _ _ rfl (by decide)) (agg_i w') (by obtain ⟨m, e⟩ := hI.world; rw [e]; have := m3; simpa using this))
    | 55, _ => injection ho with ho; subst ho; exact RSq.Does.read rfl (RSq.held (j := 42) (d := 61) rfl rfl (by decide) rfl (by simp)) (fun a w' hI => exq_nei rfl (hI.pure 54 _ _ rfl (by decide)) rfl rfl)
    | 56, _ => injection ho with ho; subst ho; exact RSq.Does.read rfl (RSq.free rfl) (fun a w' hI => exq_pick rfl (hI.pure 42 _ _ rfl (by decide)) (hI.pure 55 _ _ rfl (by decide)))
  case fin1 =>
    intro a' w' hI
    have hw := hI.world
    have pl := hI.pure 56 75 _ rfl (by decide)
    have ea := act_all a' 139 (by rw [hI.sz]; rfl) hI.df
    simp only [List.range, List.range.loop, List.map] at ea
    rw [hI.fix 0 (Reg.notD rfl), hI.fix 1 (Reg.notD rfl), hI.fix 2 (Reg.notD rfl), hI.fix 3 (Reg.notD rfl), hI.fix 4 (Reg.notD rfl), hI.fix 5 (Reg.notD rfl), hI.fix 6 (Reg.notD rfl), hI.fix 7 (Reg.notD rfl), hI.fix 8 (Reg.notD rfl), hI.fix 9 (Reg.notD rfl), hI.fix 10 (Reg.notD rfl), hI.fix 11 (Reg.notD rfl), hI.fix 12 (Reg.notD rfl), hI.fix 13 (Reg.notD rfl), hI.fix 14 (Reg.notD rfl), hI.fix 15 (Reg.notD rfl), hI.fix 16 (Reg.notD rfl), hI.fix 17 (Reg.notD rfl), hI.fix 18 (Reg.notD rfl), hI.fix 76 (Reg.notD rfl), hI.fix 77 (Reg.notD rfl), hI.fix 78 (Reg.notD rfl), hI.fix 79 (Reg.notD rfl), hI.fix 80 (Reg.notD rfl), hI.fix 81 (Reg.notD rfl), hI.fix 82 (Reg.notD rfl), hI.fix 83 (Reg.notD rfl), hI.fix 84 (Reg.notD rfl), hI.fix 85 (Reg.notD rfl), hI.fix 86 (Reg.notD rfl), hI.fix 87 (Reg.notD rfl), hI.fix 88 (Reg.notD rfl), hI.fix 89 (Reg.notD rfl), hI.fix 90 (Reg.notD rfl), hI.fix 91 (Reg.notD rfl), hI.fix 92 (Reg.notD rfl), hI.fix 93 (Reg.notD rfl), hI.fix 94 (Reg.notD rfl), hI.fix 95 (Reg.notD rfl), hI.fix 96 (Reg.notD rfl), hI.fix 97 (Reg.notD rfl), hI.fix 98 (Reg.notD rfl), hI.fix 99 (Reg.notD rfl), hI.fix 100 (Reg.notD rfl), hI.fix 101 (Reg.notD rfl), hI.fix 102 (Reg.notD rfl), hI.fix 103 (Reg.notD rfl), hI.fix 104 (Reg.notD rfl), hI.fix 105 (Reg.notD rfl), hI.fix 106 (Reg.notD rfl), hI.fix 107 (Reg.notD rfl), hI.fix 108 (Reg.notD rfl), hI.fix 109 (Reg.notD rfl), hI.fix 110 (Reg.notD rfl), hI.fix 111 (Reg.notD rfl), hI.fix 112 (Reg.notD rfl), hI.fix 113 (Reg.notD rfl), hI.fix 114 (Reg.notD rfl), hI.fix 115 (Reg.notD rfl), hI.fix 116 (Reg.notD rfl), hI.fix 117 (Reg.notD rfl), hI.fix 118 (Reg.notD rfl), hI.fix 119 (Reg.notD rfl), hI.fix 120 (Reg.notD rfl), hI.fix 121 (Reg.notD rfl), hI.fix 122 (Reg.notD rfl), hI.fix 123 (Reg.notD rfl), hI.fix 124 (Reg.notD rfl), hI.fix 125 (Reg.notD rfl), hI.fix 126 (Reg.notD rfl), hI.fix 127 (Reg.notD rfl), hI.fix 128 (Reg.notD rfl), hI.fix 129 (Reg.notD rfl), hI.fix 130 (Reg.notD rfl), hI.fix 131 (Reg.notD rfl), hI.fix 132 (Reg.notD rfl), hI.fix 133 (Reg.notD rfl), hI.fix 134 (Reg.notD rfl), hI.fix 135 (Reg.notD rfl), hI.fix 136 (Reg.notD rfl), hI.fix 137 (Reg.notD rfl), hI.fix 138 (Reg.notD rfl), pl] at ea
    clear hI pl
    generalize a'.eval (.tmp 19) = u19 at ea
    generalize a'.eval (.tmp 20) = u20 at ea
    generalize a'.eval (.tmp 21) = u21 at ea
    generalize a'.eval (.tmp 22) = u22 at ea
    generalize a'.eval (.tmp 23) = u23 at ea
    generalize a'.eval (.tmp 24) = u24 at ea
    generalize a'.eval (.tmp 25) = u25 at ea
    generalize a'.eval (.tmp 26) = u26 at ea
    generalize a'.eval (.tmp 27) = u27 at ea
    generalize a'.eval (.tmp 28) = u28 at ea
    generalize a'.eval (.tmp 29) = u29 at ea
    generalize a'.eval (.tmp 30) = u30 at ea
    generalize a'.eval (.tmp 31) = u31 at ea
    generalize a'.eval (.tmp 32) = u32 at ea
    generalize a'.eval (.tmp 33) = u33 at ea
    generalize a'.eval (.tmp 34) = u34 at ea
    generalize a'.eval (.tmp 35) = u35 at ea
    generalize a'.eval (.tmp 36) = u36 at ea
    generalize a'.eval (.tmp 37) = u37 at ea
    generalize a'.eval (.tmp 38) = u38 at ea
    generalize a'.eval (.tmp 39) = u39 at ea
    generalize a'.eval (.tmp 40) = u40 at ea
    generalize a'.eval (.tmp 41) = u41 at ea
    generalize a'.eval (.tmp 42) = u42 at ea
    generalize a'.eval (.tmp 43) = u43 at ea
    generalize a'.eval (.tmp 44) = u44 at ea
    generalize a'.eval (.tmp 45) = u45 at ea
    generalize a'.eval (.tmp 46) = u46 at ea
    generalize a'.eval (.tmp 47) = u47 at ea
    generalize a'.eval (.tmp 48) = u48 at ea
    generalize a'.eval (.tmp 49) = u49 at ea
    generalize a'.eval (.tmp 50) = u50 at ea
    generalize a'.eval (.tmp 51) = u51 at ea
    generalize a'.eval (.tmp 52) = u52 at ea
    generalize a'.eval (.tmp 53) = u53 at ea
    generalize a'.eval (.tmp 54) = u54 at ea
    generalize a'.eval (.tmp 55) = u55 at ea
    generalize a'.eval (.tmp 56) = u56 at ea
    generalize a'.eval (.tmp 57) = u57 at ea
    generalize a'.eval (.tmp 58) = u58 at ea
    generalize a'.eval (.tmp 59) = u59 at ea
    generalize a'.eval (.tmp 60) = u60 at ea
    generalize a'.eval (.tmp 61) = u61 at ea
    generalize a'.eval (.tmp 62) = u62 at ea
    generalize a'.eval (.tmp 63) = u63 at ea
    generalize a'.eval (.tmp 64) = u64 at ea
    generalize a'.eval (.tmp 65) = u65 at ea
    generalize a'.eval (.tmp 66) = u66 at ea
    generalize a'.eval (.tmp 67) = u67 at ea
    generalize a'.eval (.tmp 68) = u68 at ea
    generalize a'.eval (.tmp 69) = u69 at ea
    generalize a'.eval (.tmp 70) = u70 at ea
    generalize a'.eval (.tmp 71) = u71 at ea
    generalize a'.eval (.tmp 72) = u72 at ea
    generalize a'.eval (.tmp 73) = u73 at ea
    generalize a'.eval (.tmp 74) = u74 at ea
    simp only [show ∀ (ts : Array Value) (ds) (i : Nat), (Act.mk ts ds).eval (.tmp i) = ts.getD i undef from fun _ _ _ => rfl] at ea
    simp at ea
    subst ea
    obtain ⟨m, rfl⟩ := hw
    clear a1 a2 a3 b1 b2 b3 gcw gch gcs hn1 hnh1 hns1 kW kI m1 m2 m3 HSW hn
    go_wp2_with fail
    go_loopw [78] (fun i wr => ∃ k : Nat, k ≤ P.nh ∧ i = .int .i64 k ∧ Below w.heap.size w wr) (fun i _ => P.nh - (intOf i).toNat)
    case atStart => exact ⟨0, Nat.zero_le _, rfl, below_drewN (Below.refl _ w) _⟩
    case round =>
      obtain ⟨k, hk, rfl, hb⟩ := hrel
      by_cases hlt : k < P.nh
      · have hlt' : (k : Int) < P.nh := Int.ofNat_lt.2 hlt
        obtain ⟨bh, offh, av, cv, bk, capk, jk, jk1, pj, rfl, hc1, hj1, e1, mk, e4, c1, c2, c3, hjk⟩ := KR.out wr hb k hlt
        have HE4 := hide e4
        have HB := hide hb
        clear hj1 e4 hb
        go_wp2_with (    
          with_reducible show Code.wp _ (Code.region 6 _ _) _ _ _
          refine RSq.region (ks := [(0, 83), (1, 84), (2, 85), (3, 86), (4, 87), (5, 88), (6, 89), (7, 90), (8, 91), (9, 92), (10, 93), (11, 94), (12, 95), (13, 96), (14, 97), (15, 98), (16, 99), (17, 100), (18, 101), (19, 102), (20, 103), (21, 104), (22, 105), (23, 106)]) (vals := fun i => match i with
                | 0 => .slice (some ⟨gh, 0, none⟩) P.nh ch
                | 1 => .int .i64 (k : Int)
                | 2 => .pointer (some ⟨gh, 0 + k * 1, none⟩)
                | 3 => .slice (some ⟨bk, 0, none⟩) jk capk
                | 4 => .int .i64 (jk : Int)
                | 5 => .slice av jk cv
                | 6 => .int .i64 (jk : Int)
                | 7 => .bool false
                | 8 => .bool false
                | 9 => .slice (some ⟨gh, 0, none⟩) P.nh ch
                | 10 => .int .i64 (k : Int)
                | 11 => .pointer (some ⟨gh, 0 + k * 1, none⟩)
                | 12 => .slice (some ⟨bk, 0, none⟩) jk capk
                | 13 => .slice av jk cv
                | 14 => .int .i64 (jk : Int)
                | 15 => .int .i64 (jk1 : Int)
                | 16 => .slice (some ⟨bk, 0, none⟩) jk1 capk
                | 17 => .slice av jk cv
                | 18 => .int .i64 (jk : Int)
                | 19 => .pointer (some ⟨bk, 0 + jk * 5, none⟩)
                | 20 => .pointer (some ⟨bk, 0 + jk * 5, none⟩)
                | 21 => .int .i64 777
                | 22 => .bool false
                | 23 => .bool false
                | _ => undef) (WI := fun w' => w' = wr) rfl ?dd6 rfl ?does6 ?fin6
          case dd6 =>
            intro q hq
            have hq' : q < 139 := by
              simp [RetN.D] at hq
              omega
            simpa using hq'
          case does6 =>
            intro i o ho
            have hi : i < 24 := by have := (Array.getElem?_eq_some_iff.1 ho).1; simpa using this
            match i, hi with
            | 0, _ => injection ho with ho; subst ho; exact RSq.Does.read rfl (RSq.free rfl) (fun a w' hI => ex_move rfl (hI.fix 2 (Reg.notD rfl)))
            | 1, _ => injection ho with ho; subst ho; exact RSq.Does.read rfl (RSq.free rfl) (fun a w' hI => ex_move rfl (hI.fix 13 (Reg.notD rfl)))
            | 2, _ => injection ho with ho; subst ho; exact RSq.Does.read rfl (RSq.free rfl) (fun a w' hI => ex_index (i := k) rfl (hI.pure 0 _ _ rfl (by decide)) (hI.pure 1 _ _ rfl (by decide)) hlt Tryz.underlying25 szSl)
            | 3, _ => injection ho with ho; subst ho; exact RSq.Does.read rfl (RSq.free rfl) (fun a w' hI => ex_load rfl (hI.pure 2 _ _ rfl (by decide)) (agg_sl w') (by rw [hI.world]; have := e1; simpa using this))
            | 4, _ => injection ho with ho; subst ho; exact RSq.Does.read rfl (RSq.free rfl) (fun a w' hI => exq_lenJ rfl (hI.pure 3 _ _ rfl (by decide)))
            | 5, _ => injection ho with ho; subst ho; exact RSq.Does.read rfl (RSq.free rfl) (fun a w' hI => ex_move rfl (hI.fix 14 (Reg.notD rfl)))
            | 6, _ => injection ho with ho; subst ho; exact RSq.Does.read rfl (RSq.free rfl) (fun a w' hI => exq_lenJ rfl (hI.pure 5 _ _ rfl (by decide)))
            | 7, _ => injection ho with ho; subst ho; exact RSq.Does.read rfl (RSq.free rfl) (fun a w' hI => exq_nei rfl (hI.pure 4 _ _ rfl (by decide)) (hI.pure 6 _ _ rfl (by decide)) rfl)
            | 8, _ => injection ho with ho; subst ho; exact RSq.Does.read rfl (RSq.free rfl) (fun a w' hI => ex_move rfl (hI.pure 7 _ _ rfl (by decide)))
            | 9, _ => injection ho with ho; subst ho; exact RSq.Does.read rfl (RSq.held (j := 8) (d := 91) rfl rfl (by decide) rfl (by simp)) (fun a w' hI => ex_move rfl (hI.fix 2 (Reg.notD rfl)))
            | 10, _ => injection ho with ho; subst ho; exact RSq.Does.read rfl (RSq.held (j := 8) (d := 91) rfl rfl (by decide) rfl (by simp)) (fun a w' hI => ex_move rfl (hI.fix 13 (Reg.notD rfl)))
            | 11, _ => injection ho with ho; subst ho; exact RSq.Does.read rfl (RSq.held (j := 8) (d := 91) rfl rfl (by decide) rfl (by simp)) (fun a w' hI => ex_index (i := k) rfl (hI.pure 9 _ _ rfl (by decide)) (hI.pure 10 _ _ rfl (by decide)) hlt Tryz.underlying25 szSl)
            | 12, _ => injection ho with ho; subst ho; exact RSq.Does.read rfl (RSq.held (j := 8) (d := 91) rfl rfl (by decide) rfl (by simp)) (fun a w' hI => ex_load rfl (hI.pure 11 _ _ rfl (by decide)) (agg_sl w') (by rw [hI.world]; have := e1; simpa using this))
            | 13, _ => injection ho with ho; subst ho; exact RSq.Does.read rfl (RSq.held (j := 8) (d := 91) rfl rfl (by decide) rfl (by simp)) (fun a w' hI => ex_move rfl (hI.fix 14 (Reg.notD rfl)))
            | 14, _ => injection ho with ho; subst ho; exact RSq.Does.read rfl (RSq.held (j := 8) (d := 91) rfl rfl (by decide) rfl (by simp)) (fun a w' hI => exq_lenJ rfl (hI.pure 13 _ _ rfl (by decide)))
            | 15, _ => injection ho with ho; subst ho; exact RSq.Does.read rfl (RSq.held (j := 8) (d := 91) rfl rfl (by decide) rfl (by simp)) (fun a w' hI => exq_add1 rfl (hI.pure 14 _ _ rfl (by decide)) rfl c1)
            | 16, _ => injection ho with ho; subst ho; exact RSq.Does.read rfl (RSq.held (j := 8) (d := 91) rfl rfl (by decide) rfl (by simp)) (fun a w' hI => exq_cutJ rfl (hI.pure 12 _ _ rfl (by decide)) (hI.pure 15 _ _ rfl (by decide)) c3)
            | 17, _ => injection ho with ho; subst ho; exact RSq.Does.read rfl (RSq.held (j := 8) (d := 91) rfl rfl (by decide) rfl (by simp)) (fun a w' hI => ex_move rfl (hI.fix 14 (Reg.notD rfl)))
            | 18, _ => injection ho with ho; subst ho; exact RSq.Does.read rfl (RSq.held (j := 8) (d := 91) rfl rfl (by decide) rfl (by simp)) (fun a w' hI => exq_lenJ rfl (hI.pure 17 _ _ rfl (by decide)))
            | 19, _ => injection ho with ho; subst ho; exact RSq.Does.read rfl (RSq.held (j := 8) (d := 91) rfl rfl (by decide) rfl (by simp)) (fun a w' hI => ex_index (i := jk) rfl (hI.pure 16 _ _ rfl (by decide)) (hI.pure 18 _ _ rfl (by decide)) c2 Tryz.underlying60 szJb)
            | 20, _ => injection ho with ho; subst ho; exact RSq.Does.read rfl (RSq.held (j := 8) (d := 91) rfl rfl (by decide) rfl (by simp)) (fun a w' hI => ex_fieldo rfl (hI.pure 19 _ _ rfl (by decide)) (fieldJ0 w' _ _))
            | 21, _ => injection ho with ho; subst ho; exact RSq.Does.read rfl (RSq.held (j := 8) (d := 91) rfl rfl (by decide) rfl (by simp)) (fun a w' hI => ex_load rfl (hI.pure 20 _ _ rfl (by decide)) (agg_i w') (by rw [hI.world]; have := mk; simpa using this))
            | 22, _ => injection ho with ho; subst ho; exact RSq.Does.read rfl (RSq.held (j := 8) (d := 91) rfl rfl (by decide) rfl (by simp)) (fun a w' hI => exq_nei rfl (hI.pure 21 _ _ rfl (by decide)) rfl rfl)
            | 23, _ => injection ho with ho; subst ho; exact RSq.Does.read rfl (RSq.free rfl) (fun a w' hI => exq_pick rfl (hI.pure 8 _ _ rfl (by decide)) (hI.pure 22 _ _ rfl (by decide)))
          case fin6 =>
            intro a' w' hI
            have hw := hI.world
            have pl := hI.pure 23 106 _ rfl (by decide)
            have ea := act_all a' 139 (by rw [hI.sz]; rfl) hI.df
            simp only [List.range, List.range.loop, List.map] at ea
            rw [hI.fix 0 (Reg.notD rfl), hI.fix 1 (Reg.notD rfl), hI.fix 2 (Reg.notD rfl), hI.fix 3 (Reg.notD rfl), hI.fix 4 (Reg.notD rfl), hI.fix 5 (Reg.notD rfl), hI.fix 6 (Reg.notD rfl), hI.fix 7 (Reg.notD rfl), hI.fix 8 (Reg.notD rfl), hI.fix 9 (Reg.notD rfl), hI.fix 10 (Reg.notD rfl), hI.fix 11 (Reg.notD rfl), hI.fix 12 (Reg.notD rfl), hI.fix 13 (Reg.notD rfl), hI.fix 14 (Reg.notD rfl), hI.fix 15 (Reg.notD rfl), hI.fix 16 (Reg.notD rfl), hI.fix 17 (Reg.notD rfl), hI.fix 18 (Reg.notD rfl), hI.fix 19 (Reg.notD rfl), hI.fix 20 (Reg.notD rfl), hI.fix 21 (Reg.notD rfl), hI.fix 22 (Reg.notD rfl), hI.fix 23 (Reg.notD rfl), hI.fix 24 (Reg.notD rfl), hI.fix 25 (Reg.notD rfl), hI.fix 26 (Reg.notD rfl), hI.fix 27 (Reg.notD rfl), hI.fix 28 (Reg.notD rfl), hI.fix 29 (Reg.notD rfl), hI.fix 30 (Reg.notD rfl), hI.fix 31 (Reg.notD rfl), hI.fix 32 (Reg.notD rfl), hI.fix 33 (Reg.notD rfl), hI.fix 34 (Reg.notD rfl), hI.fix 35 (Reg.notD rfl), hI.fix 36 (Reg.notD rfl), hI.fix 37 (Reg.notD rfl), hI.fix 38 (Reg.notD rfl), hI.fix 39 (Reg.notD rfl), hI.fix 40 (Reg.notD rfl), hI.fix 41 (Reg.notD rfl), hI.fix 42 (Reg.notD rfl), hI.fix 43 (Reg.notD rfl), hI.fix 44 (Reg.notD rfl), hI.fix 45 (Reg.notD rfl), hI.fix 46 (Reg.notD rfl), hI.fix 47 (Reg.notD rfl), hI.fix 48 (Reg.notD rfl), hI.fix 49 (Reg.notD rfl), hI.fix 50 (Reg.notD rfl), hI.fix 51 (Reg.notD rfl), hI.fix 52 (Reg.notD rfl), hI.fix 53 (Reg.notD rfl), hI.fix 54 (Reg.notD rfl), hI.fix 55 (Reg.notD rfl), hI.fix 56 (Reg.notD rfl), hI.fix 57 (Reg.notD rfl), hI.fix 58 (Reg.notD rfl), hI.fix 59 (Reg.notD rfl), hI.fix 60 (Reg.notD rfl), hI.fix 61 (Reg.notD rfl), hI.fix 62 (Reg.notD rfl), hI.fix 63 (Reg.notD rfl), hI.fix 64 (Reg.notD rfl), hI.fix 65 (Reg.notD rfl), hI.fix 66 (Reg.notD rfl), hI.fix 67 (Reg.notD rfl), hI.fix 68 (Reg.notD rfl), hI.fix 69 (Reg.notD rfl), hI.fix 70 (Reg.notD rfl), hI.fix 71 (Reg.notD rfl), hI.fix 72 (Reg.notD rfl), hI.fix 73 (Reg.notD rfl), hI.fix 74 (Reg.notD rfl), hI.fix 75 (Reg.notD rfl), hI.fix 76 (Reg.notD rfl), hI.fix 77 (Reg.notD rfl), hI.fix 78 (Reg.notD rfl), hI.fix 79 (Reg.notD rfl), hI.fix 80 (Reg.notD rfl), hI.fix 81 (Reg.notD rfl), hI.fix 82 (Reg.notD rfl), hI.fix 107 (Reg.notD rfl), hI.fix 108 (Reg.notD rfl), hI.fix 109 (Reg.notD rfl), hI.fix 110 (Reg.notD rfl), hI.fix 111 (Reg.notD rfl), hI.fix 112 (Reg.notD rfl), hI.fix 113 (Reg.notD rfl), hI.fix 114 (Reg.notD rfl), hI.fix 115 (Reg.notD rfl), hI.fix 116 (Reg.notD rfl), hI.fix 117 (Reg.notD rfl), hI.fix 118 (Reg.notD rfl), hI.fix 119 (Reg.notD rfl), hI.fix 120 (Reg.notD rfl), hI.fix 121 (Reg.notD rfl), hI.fix 122 (Reg.notD rfl), hI.fix 123 (Reg.notD rfl), hI.fix 124 (Reg.notD rfl), hI.fix 125 (Reg.notD rfl), hI.fix 126 (Reg.notD rfl), hI.fix 127 (Reg.notD rfl), hI.fix 128 (Reg.notD rfl), hI.fix 129 (Reg.notD rfl), hI.fix 130 (Reg.notD rfl), hI.fix 131 (Reg.notD rfl), hI.fix 132 (Reg.notD rfl), hI.fix 133 (Reg.notD rfl), hI.fix 134 (Reg.notD rfl), hI.fix 135 (Reg.notD rfl), hI.fix 136 (Reg.notD rfl), hI.fix 137 (Reg.notD rfl), hI.fix 138 (Reg.notD rfl), pl] at ea
            clear hI pl
            generalize a'.eval (.tmp 83) = u83 at ea
            generalize a'.eval (.tmp 84) = u84 at ea
            generalize a'.eval (.tmp 85) = u85 at ea
            generalize a'.eval (.tmp 86) = u86 at ea
            generalize a'.eval (.tmp 87) = u87 at ea
            generalize a'.eval (.tmp 88) = u88 at ea
            generalize a'.eval (.tmp 89) = u89 at ea
            generalize a'.eval (.tmp 90) = u90 at ea
            generalize a'.eval (.tmp 91) = u91 at ea
            generalize a'.eval (.tmp 92) = u92 at ea
            generalize a'.eval (.tmp 93) = u93 at ea
            generalize a'.eval (.tmp 94) = u94 at ea
            generalize a'.eval (.tmp 95) = u95 at ea
            generalize a'.eval (.tmp 96) = u96 at ea
            generalize a'.eval (.tmp 97) = u97 at ea
            generalize a'.eval (.tmp 98) = u98 at ea
            generalize a'.eval (.tmp 99) = u99 at ea
            generalize a'.eval (.tmp 100) = u100 at ea
            generalize a'.eval (.tmp 101) = u101 at ea
            generalize a'.eval (.tmp 102) = u102 at ea
            generalize a'.eval (.tmp 103) = u103 at ea
            generalize a'.eval (.tmp 104) = u104 at ea
            generalize a'.eval (.tmp 105) = u105 at ea
            simp only [show ∀ (ts : Array Value) (ds) (i : Nat), (Act.mk ts ds).eval (.tmp i) = ts.getD i undef from fun _ _ _ => rfl] at ea
            simp at ea
            subst ea
            subst hw)
        clear c1 c2 c3 mk
        go_loopw [109] (fun i w2 => ∃ q : Nat, q ≤ jk ∧ i = .int .i64 q ∧ Below w.heap.size w w2) (fun i _ => jk - (intOf i).toNat)
        case atStart => exact ⟨0, Nat.zero_le _, rfl, HB.out⟩
        case round =>
          obtain ⟨q, hq, rfl, hb2⟩ := hrel
          obtain ⟨g0, gi⟩ := HE4.out wr hb2
          by_cases hlq : q < jk
          · have hlq' : (q : Int) < jk := Int.ofNat_lt.2 hlq
            obtain ⟨bj, oj, rfl, hcell⟩ := gi q hlq
            obtain ⟨pq, hp⟩ : ∃ p, pj q = p := ⟨_, rfl⟩
            rw [hp] at hcell
            obtain ⟨j0, j1, j2, j3, j4⟩ := pq
            obtain ⟨x0, y0⟩ := hcell 0 (by decide)
            obtain ⟨x1, y1⟩ := hcell 1 (by decide)
            obtain ⟨x2, y2⟩ := hcell 2 (by decide)
            obtain ⟨x3, y3⟩ := hcell 3 (by decide)
            obtain ⟨x4, y4⟩ := hcell 4 (by decide)
            simp only [Jb.cell, Nat.add_zero] at x0 x1 x2 x3 x4 y0 y1 y2 y3 y4
            have HB2 := hide hb2
            clear hb2 hcell gi
            go_wp2_with fail
            obtain ⟨g0', gi'⟩ := HE4.out _ (HB2.out.alloc HB2.out.size (.cells #[.int .i64 j0, .int .i64 j1, .int .i64 j2, .int .i64 j3, .int .u64 j4] 52))
            have HG0 := hide g0'
            have HRK := hide (show (wr.alloc (.cells #[.int .i64 j0, .int .i64 j1, .int .i64 j2, .int .i64 j3, .int .u64 j4] 52)).rangeAt bk (0 + q * 5) [.int .i64 j0, .int .i64 j1, .int .i64 j2, .int .i64 j3, .int .u64 j4] from by
              obtain ⟨bj', oj', ej, hcell'⟩ := gi' q hlq
              rw [hp] at hcell'
              intro i v hv
              have hi : i < 5 := by have := (List.getElem?_eq_some_iff.1 hv).1; simpa using this
              rw [Nat.zero_add, (hcell' i hi).1]
              match i, hi with
              | 0, _ => exact hv
              | 1, _ => exact hv
              | 2, _ => exact hv
              | 3, _ => exact hv
              | 4, _ => exact hv)
            have HRB := hide (show (wr.alloc (.cells #[.int .i64 j0, .int .i64 j1, .int .i64 j2, .int .i64 j3, .int .u64 j4] 52)).rangeAt wr.heap.size 0 [.int .i64 j0, .int .i64 j1, .int .i64 j2, .int .i64 j3, .int .u64 j4] from cell_range (b := 0))
            obtain ⟨dJ, hdJ1, hdJ2⟩ := row54
            have HDJ := hide (And.intro hdJ1 hdJ2)
            clear g0' gi' hdJ1 hdJ2 x0 x1 x2 x3 x4 y0 y1 y2 y3 y4 g0
            refine RG.region (ks := [(0, 114), (1, 115), (2, 116), (3, 117), (4, 118), (5, 119), (6, 120), (7, 121), (8, 122)]) (vals := fun i => match i with
                | 0 => .slice (some ⟨gh, 0, none⟩) P.nh ch
                | 1 => .int .i64 (k : Int)
                | 2 => .pointer (some ⟨gh, 0 + k * 1, none⟩)
                | 3 => .slice (some ⟨bk, 0, none⟩) jk capk
                | 4 => .int .i64 (q : Int)
                | 5 => .pointer (some ⟨bk, 0 + q * 5, none⟩)
                | 6 => .agg #[.int .i64 j0, .int .i64 j1, .int .i64 j2, .int .i64 j3, .int .u64 j4]
                | 7 => .agg #[.int .i64 j0, .int .i64 j1, .int .i64 j2, .int .i64 j3, .int .u64 j4]
                | 8 => .bool false
                | _ => undef) (x := 123) (WI := fun L v w' => ∃ m, w' = (wr.alloc (.cells #[.int .i64 j0, .int .i64 j1, .int .i64 j2, .int .i64 j3, .int .u64 j4] 52)).drewN m) (by kernel_rfl) ?gg ?bk rfl ?dd ?xx ⟨1, rfl⟩ ?does ?fin
            case gg =>
              intro i o ho
              have hi : i < 9 := by have := (Array.getElem?_eq_some_iff.1 ho).1; simpa using this
              match i, hi with
              | 0, _ | 1, _ | 2, _ | 3, _ | 4, _ | 5, _ | 6, _ | 7, _ | 8, _ => injection ho with ho; subst ho; rfl
            case bk =>
              intro i o ho
              have hi : i < 9 := by have := (Array.getElem?_eq_some_iff.1 ho).1; simpa using this
              match i, hi with
              | 0, _ | 1, _ | 2, _ | 3, _ | 4, _ | 5, _ | 6, _ | 7, _ | 8, _ => injection ho with ho; subst ho; simp [Region.binds]
            case dd =>
              intro q1 hq1
              have hq2 : q1 < 139 := by
                simp [RetN.D] at hq1
                omega
              simpa using hq2
            case xx => simp
            case does =>
              intro i o ho
              have hi : i < 9 := by have := (Array.getElem?_eq_some_iff.1 ho).1; simpa using this
              match i, hi with
              | 0, _ => injection ho with ho; subst ho; exact RG.Does.read rfl (fun L v w' h => h) (fun L a w' hI hd => ex_move rfl (hI.fix 2 (Reg.notD rfl) (by decide)))
              | 1, _ => injection ho with ho; subst ho; exact RG.Does.read rfl (fun L v w' h => h) (fun L a w' hI hd => ex_move rfl (hI.fix 13 (Reg.notD rfl) (by decide)))
              | 2, _ => injection ho with ho; subst ho; exact RG.Does.read rfl (fun L v w' h => h) (fun L a w' hI hd => ex_index (i := k) rfl (hI.pure 0 _ _ rfl (hd ⟨0, .data⟩ (by simp) rfl)) (hI.pure 1 _ _ rfl (hd ⟨1, .data⟩ (by simp) rfl)) hlt Tryz.underlying25 szSl)
              | 3, _ => injection ho with ho; subst ho; exact RG.Does.read rfl (fun L v w' h => h) (fun L a w' hI hd => ex_load rfl (hI.pure 2 _ _ rfl (hd ⟨2, .data⟩ (by simp) rfl)) (agg_sl w') (by obtain ⟨m', e⟩ := hI.world; rw [e]; have := HG0.out; simpa using this))
              | 4, _ => injection ho with ho; subst ho; exact RG.Does.read rfl (fun L v w' h => h) (fun L a w' hI hd => ex_move rfl (hI.fix 15 (Reg.notD rfl) (by decide)))
              | 5, _ => injection ho with ho; subst ho; exact RG.Does.read rfl (fun L v w' h => h) (fun L a w' hI hd => ex_index (i := q) rfl (hI.pure 3 _ _ rfl (hd ⟨3, .data⟩ (by simp) rfl)) (hI.pure 4 _ _ rfl (hd ⟨4, .data⟩ (by simp) rfl)) hlq Tryz.underlying60 szJb)
              | 6, _ => injection ho with ho; subst ho; exact RG.Does.read rfl (fun L v w' h => h) (fun L a w' hI hd => ex_load_row rfl (hI.pure 5 _ _ rfl (hd ⟨5, .data⟩ (by simp) rfl)) (by obtain ⟨m', e⟩ := hI.world; rw [e]; exact HRK.out) HDJ.out.1 HDJ.out.2 size54)
              | 7, _ => injection ho with ho; subst ho; exact RG.Does.read rfl (fun L v w' h => h) (fun L a w' hI hd => ex_load_row rfl (hI.fix 16 (Reg.notD rfl) (by decide)) (by obtain ⟨m', e⟩ := hI.world; rw [e]; exact HRB.out) HDJ.out.1 HDJ.out.2 size54)
              | 8, _ => injection ho with ho; subst ho; exact RG.Does.read rfl (fun L v w' h => h) (fun L a w' hI hd => exq_nej rfl (hI.pure 6 _ _ rfl (hd ⟨6, .data⟩ (by simp) rfl)) (hI.pure 7 _ _ rfl (hd ⟨7, .data⟩ (by simp) rfl)))
            case fin =>
              intro L a' w1 hI hall
              obtain ⟨m', rfl⟩ := hI.world
              have pl := hI.pure 8 122 _ rfl (hall 8 (by decide))
              have ea := act_all a' 139 (by rw [hI.sz]; rfl) hI.df
              simp only [List.range, List.range.loop, List.map] at ea
              rw [hI.fix 0 (Reg.notD rfl) (by decide), hI.fix 1 (Reg.notD rfl) (by decide), hI.fix 2 (Reg.notD rfl) (by decide), hI.fix 3 (Reg.notD rfl) (by decide), hI.fix 4 (Reg.notD rfl) (by decide), hI.fix 5 (Reg.notD rfl) (by decide), hI.fix 7 (Reg.notD rfl) (by decide), hI.fix 8 (Reg.notD rfl) (by decide), hI.fix 9 (Reg.notD rfl) (by decide), hI.fix 10 (Reg.notD rfl) (by decide), hI.fix 11 (Reg.notD rfl) (by decide), hI.fix 12 (Reg.notD rfl) (by decide), hI.fix 13 (Reg.notD rfl) (by decide), hI.fix 14 (Reg.notD rfl) (by decide), hI.fix 15 (Reg.notD rfl) (by decide), hI.fix 16 (Reg.notD rfl) (by decide), hI.fix 17 (Reg.notD rfl) (by decide), hI.fix 18 (Reg.notD rfl) (by decide), hI.fix 19 (Reg.notD rfl) (by decide), hI.fix 20 (Reg.notD rfl) (by decide), hI.fix 21 (Reg.notD rfl) (by decide), hI.fix 22 (Reg.notD rfl) (by decide), hI.fix 23 (Reg.notD rfl) (by decide), hI.fix 24 (Reg.notD rfl) (by decide), hI.fix 25 (Reg.notD rfl) (by decide), hI.fix 26 (Reg.notD rfl) (by decide), hI.fix 27 (Reg.notD rfl) (by decide), hI.fix 28 (Reg.notD rfl) (by decide), hI.fix 29 (Reg.notD rfl) (by decide), hI.fix 30 (Reg.notD rfl) (by decide), hI.fix 31 (Reg.notD rfl) (by decide), hI.fix 32 (Reg.notD rfl) (by decide), hI.fix 33 (Reg.notD rfl) (by decide), hI.fix 34 (Reg.notD rfl) (by decide), hI.fix 35 (Reg.notD rfl) (by decide), hI.fix 36 (Reg.notD rfl) (by decide), hI.fix 37 (Reg.notD rfl) (by decide), hI.fix 38 (Reg.notD rfl) (by decide), hI.fix 39 (Reg.notD rfl) (by decide), hI.fix 40 (Reg.notD rfl) (by decide), hI.fix 41 (Reg.notD rfl) (by decide), hI.fix 42 (Reg.notD rfl) (by decide), hI.fix 43 (Reg.notD rfl) (by decide), hI.fix 44 (Reg.notD rfl) (by decide), hI.fix 45 (Reg.notD rfl) (by decide), hI.fix 46 (Reg.notD rfl) (by decide), hI.fix 47 (Reg.notD rfl) (by decide), hI.fix 48 (Reg.notD rfl) (by decide), hI.fix 49 (Reg.notD rfl) (by decide), hI.fix 50 (Reg.notD rfl) (by decide), hI.fix 51 (Reg.notD rfl) (by decide), hI.fix 52 (Reg.notD rfl) (by decide), hI.fix 53 (Reg.notD rfl) (by decide), hI.fix 54 (Reg.notD rfl) (by decide), hI.fix 55 (Reg.notD rfl) (by decide), hI.fix 56 (Reg.notD rfl) (by decide), hI.fix 57 (Reg.notD rfl) (by decide), hI.fix 58 (Reg.notD rfl) (by decide), hI.fix 59 (Reg.notD rfl) (by decide), hI.fix 60 (Reg.notD rfl) (by decide), hI.fix 61 (Reg.notD rfl) (by decide), hI.fix 62 (Reg.notD rfl) (by decide), hI.fix 63 (Reg.notD rfl) (by decide), hI.fix 64 (Reg.notD rfl) (by decide), hI.fix 65 (Reg.notD rfl) (by decide), hI.fix 66 (Reg.notD rfl) (by decide), hI.fix 67 (Reg.notD rfl) (by decide), hI.fix 68 (Reg.notD rfl) (by decide), hI.fix 69 (Reg.notD rfl) (by decide), hI.fix 70 (Reg.notD rfl) (by decide), hI.fix 71 (Reg.notD rfl) (by decide), hI.fix 72 (Reg.notD rfl) (by decide), hI.fix 73 (Reg.notD rfl) (by decide), hI.fix 74 (Reg.notD rfl) (by decide), hI.fix 75 (Reg.notD rfl) (by decide), hI.fix 76 (Reg.notD rfl) (by decide), hI.fix 77 (Reg.notD rfl) (by decide), hI.fix 78 (Reg.notD rfl) (by decide), hI.fix 79 (Reg.notD rfl) (by decide), hI.fix 80 (Reg.notD rfl) (by decide), hI.fix 81 (Reg.notD rfl) (by decide), hI.fix 82 (Reg.notD rfl) (by decide), hI.fix 83 (Reg.notD rfl) (by decide), hI.fix 84 (Reg.notD rfl) (by decide), hI.fix 85 (Reg.notD rfl) (by decide), hI.fix 86 (Reg.notD rfl) (by decide), hI.fix 87 (Reg.notD rfl) (by decide), hI.fix 88 (Reg.notD rfl) (by decide), hI.fix 89 (Reg.notD rfl) (by decide), hI.fix 90 (Reg.notD rfl) (by decide), hI.fix 91 (Reg.notD rfl) (by decide), hI.fix 92 (Reg.notD rfl) (by decide), hI.fix 93 (Reg.notD rfl) (by decide), hI.fix 94 (Reg.notD rfl) (by decide), hI.fix 95 (Reg.notD rfl) (by decide), hI.fix 96 (Reg.notD rfl) (by decide), hI.fix 97 (Reg.notD rfl) (by decide), hI.fix 98 (Reg.notD rfl) (by decide), hI.fix 99 (Reg.notD rfl) (by decide), hI.fix 100 (Reg.notD rfl) (by decide), hI.fix 101 (Reg.notD rfl) (by decide), hI.fix 102 (Reg.notD rfl) (by decide), hI.fix 103 (Reg.notD rfl) (by decide), hI.fix 104 (Reg.notD rfl) (by decide), hI.fix 105 (Reg.notD rfl) (by decide), hI.fix 106 (Reg.notD rfl) (by decide), hI.fix 107 (Reg.notD rfl) (by decide), hI.fix 108 (Reg.notD rfl) (by decide), hI.fix 109 (Reg.notD rfl) (by decide), hI.fix 110 (Reg.notD rfl) (by decide), hI.fix 111 (Reg.notD rfl) (by decide), hI.fix 112 (Reg.notD rfl) (by decide), hI.fix 113 (Reg.notD rfl) (by decide), hI.fix 6 (Reg.notD rfl) (by decide), hI.fix 124 (Reg.notD rfl) (by decide), hI.fix 125 (Reg.notD rfl) (by decide), hI.fix 126 (Reg.notD rfl) (by decide), hI.fix 127 (Reg.notD rfl) (by decide), hI.fix 128 (Reg.notD rfl) (by decide), hI.fix 129 (Reg.notD rfl) (by decide), hI.fix 130 (Reg.notD rfl) (by decide), hI.fix 131 (Reg.notD rfl) (by decide), hI.fix 132 (Reg.notD rfl) (by decide), hI.fix 133 (Reg.notD rfl) (by decide), hI.fix 134 (Reg.notD rfl) (by decide), hI.fix 135 (Reg.notD rfl) (by decide), hI.fix 136 (Reg.notD rfl) (by decide), hI.fix 137 (Reg.notD rfl) (by decide), hI.fix 138 (Reg.notD rfl) (by decide), pl] at ea
              clear hI pl hall
              generalize a'.eval (.tmp 114) = v114 at ea
              generalize a'.eval (.tmp 115) = v115 at ea
              generalize a'.eval (.tmp 116) = v116 at ea
              generalize a'.eval (.tmp 117) = v117 at ea
              generalize a'.eval (.tmp 118) = v118 at ea
              generalize a'.eval (.tmp 119) = v119 at ea
              generalize a'.eval (.tmp 120) = v120 at ea
              generalize a'.eval (.tmp 121) = v121 at ea
              generalize a'.eval (.tmp 123) = v123 at ea
              simp only [show ∀ (ts : Array Value) (ds) (i : Nat), (Act.mk ts ds).eval (.tmp i) = ts.getD i undef from fun _ _ _ => rfl] at ea
              simp at ea
              subst ea
              go_wp2_with fail
              go_roundw
              case rel => exact ⟨q + 1, Nat.succ_le_of_lt hlq, by go_num, below_drewN (HB2.out.alloc (HB2.out.size) _) _⟩
              case measure => (simp [intOf]; exact meas_lt hlq)
          · have hlq' : ¬ (q : Int) < jk := fun h => hlq (Int.ofNat_lt.1 h)
            have HB2 := hide hb2
            clear hb2 gi
            go_wp2_with fail
            go_roundw
            case rel => exact ⟨k + 1, Nat.succ_le_of_lt hlt, by go_num, HB2.out⟩
            case measure => (simp [intOf]; exact meas_lt hlt)
      · have hlt' : ¬ (k : Int) < P.nh := fun h => hlt (Int.ofNat_lt.1 h)
        have HB := hide hb
        clear hb
        go_wp2_with fail
        go_loopw [127] (fun i w2 => ∃ q : Nat, q ≤ P.ns ∧ i = .int .i64 q ∧ Below w.heap.size w w2) (fun i _ => P.ns - (intOf i).toNat)
        case atStart => exact ⟨0, Nat.zero_le _, rfl, HB.out⟩
        case round =>
          obtain ⟨q, hq, rfl, hb2⟩ := hrel
          by_cases hlt2 : q < P.ns
          · have hlt2' : (q : Int) < P.ns := Int.ofNat_lt.2 hlt2
            obtain ⟨bi, offi, sq, rfl, hc2, hc3⟩ := KI.out wr hb2 q hlt2
            have HB2 := hide hb2
            clear hb2
            go_wp2_with fail
            go_roundw
            case rel => exact ⟨q + 1, Nat.succ_le_of_lt hlt2, by go_num, HB2.out⟩
            case measure => (simp [intOf]; exact meas_lt hlt2)
          · have hlt2' : ¬ (q : Int) < P.ns := fun h => hlt2 (Int.ofNat_lt.1 h)
            have HB2 := hide hb2
            clear hb2
            go_wp2_with fail
            go_ret
            exact ⟨rfl, HB2.out⟩
end L16
end Go.Proofs.YtnodkeoikamonaaGreat
