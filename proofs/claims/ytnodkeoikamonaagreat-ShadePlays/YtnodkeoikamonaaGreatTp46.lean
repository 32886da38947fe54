/-
  Lemmas: L16Jobs, L16Three.
-/
import Derived.Test.YtnodkeoikamonaaGreatTp45
import Derived.Test.YtnodkeoikamonaaGreatTp20
/-
  Hands' jobs in new memory, each list with a marked job behind it.
-/
namespace Go.Proofs.YtnodkeoikamonaaGreat
open Go.RowKit
set_option linter.unusedVariables false
set_option linter.unusedSimpArgs false
set_option linter.unnecessarySimpa false
set_option maxRecDepth 20000
namespace L16
def Jb.cells (j : Jb) : List Value := [.int .i64 j.kind, .int .i64 j.a, .int .i64 j.b, .int .i64 j.c, .int .u64 j.h]
def jobCells (j : Nat → Jb) : Nat → List Value
  | 0 => []
  | k + 1 => jobCells j k ++ Jb.cells (j k)
theorem jobCells_length (j : Nat → Jb) (k : Nat) : (jobCells j k).length = k * 5 := by
  induction k with
  | zero => rfl
  | succ k ih => simp [jobCells, ih, Jb.cells]; omega
theorem jobCells_congr {j j' : Nat → Jb} {k : Nat} (h : ∀ i, i < k → j i = j' i) : jobCells j k = jobCells j' k := by
  induction k with
  | zero => rfl
  | succ k ih => simp only [jobCells]; rw [ih (fun i hi => h i (by omega)), h k (by omega)]
theorem jobCells_get (j : Nat → Jb) : ∀ (k i q : Nat), i < k → q < 5 → (jobCells j k)[i * 5 + q]? = some (Jb.cell (j i) q)
  | 0, i, q, hi, _ => absurd hi (Nat.not_lt_zero _)
  | k + 1, i, q, hi, hq => by
    have hl := jobCells_length j k
    by_cases h : i < k
    · rw [jobCells, List.getElem?_append_left (by omega)]
      exact jobCells_get j k i q h hq
    · obtain rfl : i = k := by omega
      rw [jobCells, List.getElem?_append_right (by omega), hl]
      have : i * 5 + q - i * 5 = q := by omega
      rw [this]
      match q, hq with
      | 0, _ | 1, _ | 2, _ | 3, _ | 4, _ => rfl
theorem jobCells_one (j : Nat → Jb) (k : Nat) : ∀ u ∈ jobCells j k, u.oneCell' = true := by
  induction k with
  | zero => intro u hu; cases hu
  | succ k ih =>
    intro u hu
    rcases List.mem_append.1 hu with h | h
    · exact ih u h
    · simp [Jb.cells] at h
      rcases h with rfl | rfl | rfl | rfl | rfl <;> rfl
theorem jobCells_inv {j : Nat → Jb} {k x : Nat} {u : Value} (h : (jobCells j k)[x]? = some u) : ∃ i q, i < k ∧ q < 5 ∧ x = i * 5 + q ∧ u = Jb.cell (j i) q := by
  have hx : x < k * 5 := by have := (List.getElem?_eq_some_iff.1 h).1; rwa [jobCells_length] at this
  refine ⟨x / 5, x % 5, by omega, by omega, by omega, ?_⟩
  have := jobCells_get j k (x / 5) (x % 5) (by omega) (by omega)
  rw [show x / 5 * 5 + x % 5 = x by omega, h] at this
  exact Option.some.inj this
theorem marked_jobs (n : Nat) (j : Nat → Jb) : jobCells j n ++ [.int .i64 777, .int .i64 0, .int .i64 0, .int .i64 0, .int .u64 0] = jobCells (markJ n j) (n + 1) := by
  simp only [jobCells]
  rw [jobCells_congr (j' := markJ n j) (fun i hi => by simp [markJ, hi])]
  simp [markJ, Jb.cells]
theorem infoJ : ∃ i, Tryz.prog.info? 52 = some i ∧ i.zero = some (.agg #[.int .i64 0, .int .i64 0, .int .i64 0, .int .i64 0, .int .u64 0]) ∧ i.size = 5 ∧ i.bytes = 40 := by
  have h : (Tryz.prog.info? 52).map (fun i => (i.zero, i.size, i.bytes)) = some (some (.agg #[.int .i64 0, .int .i64 0, .int .i64 0, .int .i64 0, .int .u64 0]), 5, 40) := by kernel_rfl
  obtain ⟨i, h1, h2⟩ := Option.map_eq_some_iff.1 h
  injection h2 with h2 h3
  injection h3 with h3 h4
  exact ⟨i, h1, h2, h3, h4⟩
theorem infoSl : ∃ i, Tryz.prog.info? 60 = some i ∧ i.zero = some (.slice none 0 0) ∧ i.size = 1 ∧ i.bytes = 24 := by
  have h : (Tryz.prog.info? 60).map (fun i => (i.zero, i.size, i.bytes)) = some (some (.slice none 0 0), 1, 24) := by kernel_rfl
  obtain ⟨i, h1, h2⟩ := Option.map_eq_some_iff.1 h
  injection h2 with h2 h3
  injection h3 with h3 h4
  exact ⟨i, h1, h2, h3, h4⟩
theorem wpList_append_d {P : Program} {w : World} {ops : Array Oper} {rest : List Oper} {o : Oper} {a : Act} {Q : Exit → Act → World → Prop} (hgd : o.guard = none) (s x : Operand) (t : TypeId)
    (ho : o.op = .call { callee := .builtin .append, args := #[s, x], argTypes := #[t, t] })
    (base : Nat) (e : TypeId) (i : TypeInfo) (z : Value) (size bytes : Nat) (ht : P.underlying t = some (.slice e)) (hi : P.info? e = some i) (hz : i.zero = some z)
    (hsize : i.size = size) (hby : i.bytes = bytes) (hzs : z.cells.size = size) (hsz : 0 < size)
    (v : Value) (n : Nat) (xs : List Value) (hs : a.eval s = v) (hown : w.ownsRow base e size v n xs)
    (ad : Addr) (m c : Nat) (news : List Value) (hx : a.eval x = .slice (some ad) m c) (hl : news.length = m * size) (hnews : ∀ j u, news[j]? = some u → w.cell? (ad.add j) = some u) (h1 : ∀ u ∈ news, u.oneCell' = true)
    (h63 : n + m ≤ maxLen) (hbytes : (n + m) * bytes ≤ 140737488355328) (hbase : base ≤ w.heap.size)
    (h : ∀ v' w', w'.ownsRow base e size v' (n + m) (xs ++ news) → w.grownBy w' v.ownBlock → ((v' = .slice none 0 0) → v = .slice none 0 0) → (v'.ownBlock = v.ownBlock ∨ v'.ownBlock = some w.heap.size) → wpList P ops Q rest (a.put o.dst v') w') : wpList P ops Q (o :: rest) a w := by
  obtain ⟨v', w', hr, h2, h3, h4, h5⟩ := run_append_own_at (P := P) w base t o.type e i z size bytes ht hi hz hsize hby hzs hsz v n xs hown ad m c news hl hnews h1 h63 hbytes hbase
  refine wpList_plain hgd fun K hK => wp_value (w' := w') (v := v') ?_ (hK _ _ (h v' w' h2 h3 (fun e => (h4.1 e).1) h5))
  simp [execOp, ho, resolve, invoke, builtin, hs, hx, hr, Result.andThen]
theorem sees_news {w : World} {B : Nat} {ao : Option Addr} {n : Nat} {j : Nat → Jb} (h : SeesJ w B ao n j) : ∀ ad, ao = some ad → ∀ x u, (jobCells j n)[x]? = some u → w.cell? (ad.add x) = some u := by
  intro ad hao x u hu
  obtain ⟨i, q, hi, hq, rfl, rfl⟩ := jobCells_inv hu
  obtain ⟨b, off, he, hbl, hcc⟩ := h i hi
  rw [hao] at he
  cases he
  rw [Go.WideShapes.add_plain, ← Nat.add_assoc]
  exact hcc q hq
def RowsJ (base : Nat) (w : World) (v : Value) (k : Nat) (cs : List Value) (jn : Nat → Nat) (jb : Nat → Nat → Jb) : Prop :=
  ∀ h, h < k → ∃ b cap, cs[h]? = some (.slice (some ⟨b, 0, none⟩) (jn h) cap) ∧ jn h < cap ∧ base ≤ b ∧ b < w.heap.size ∧ v.ownBlock ≠ some b ∧ ∀ i, i < jn h + 1 → ∀ q, q < 5 → w.cell? ⟨b, i * 5 + q, none⟩ = some (Jb.cell (markJ (jn h) (jb h) i) q)
theorem RowsJ.kept {base : Nat} {w w' : World} {v : Value} {k : Nat} {cs : List Value} {jn : Nat → Nat} {jb : Nat → Nat → Jb} {r : Option Nat} (h : RowsJ base w v k cs jn jb) (hg : w.grownBy w' r) (hr : r = v.ownBlock ∨ ∃ x, r = some x ∧ w.heap.size ≤ x ∨ r = none) : RowsJ base w' v k cs jn jb := by
  intro i hi
  obtain ⟨b, cap, e1, e2, e3, e4, e5, e6⟩ := h i hi
  have hne : some b ≠ r := by
    rcases hr with rfl | ⟨x, ⟨rfl, hx⟩ | rfl⟩
    · exact Ne.symm e5
    · intro he; cases he; omega
    · exact fun he => by cases he
  exact ⟨b, cap, e1, e2, e3, Nat.lt_of_lt_of_le e4 hg.size, e5, fun i hi q hq => hg.cell (e6 i hi q hq) hne⟩
theorem below_grown_opt {a b : World} {B : Nat} {r : Option Nat} (h : a.grownBy b r) (hr : ∀ x, r = some x → B ≤ x) (hB : B ≤ a.heap.size) : Below B a b :=
  ⟨h.os, h.tape, h.output, h.size, fun k hk => h.block k (by omega) (fun e => by have := hr k e.symm; omega)⟩
section
variable {base : Nat} {wr w4 w5 w6 : World} {v v6 : Value} {k jk g4 g5 c5 : Nat} {cs : List Value} {jn : Nat → Nat} {jb : Nat → Nat → Jb} {o1 o2 o3 : Obj}
theorem rows_own (HO : wr.ownsRow base 60 1 v k cs) (G4 : (wr.alloc o1).grownBy w4 (some wr.heap.size)) (hg4 : wr.heap.size ≤ g4) (G5 : (w4.alloc o2).grownBy w5 (some g4)) : (w5.alloc o3).ownsRow base 60 1 v k cs := by
  have hub : ∀ x, wr.heap.size ≤ x → v.ownBlock ≠ some x := fun x hx e => by have := (HO.lt x e).2; omega
  exact (((((HO.alloc o1).kept G4 (.inr (hub _ (Nat.le_refl _)))).alloc o2).kept G5 (.inr (hub _ hg4)))).alloc o3
theorem rows_step (HR : RowsJ base wr v k cs jn jb) (HO : wr.ownsRow base 60 1 v k cs) (hbw : base ≤ wr.heap.size) (hcl : cs.length = k) (G4 : (wr.alloc o1).grownBy w4 (some wr.heap.size)) (hg4 : wr.heap.size ≤ g4) (G5 : (w4.alloc o2).grownBy w5 (some g4))
    (hjk : jn k = jk) (O5 : w5.ownsRow wr.heap.size 52 5 (.slice (some ⟨g5, 0, none⟩) (jk + 1) c5) (jk + 1) (jobCells (markJ jk (jb k)) (jk + 1))) (hg5 : wr.heap.size ≤ g5) (hc5 : jk + 1 ≤ c5)
    (G6 : (w5.alloc o3).grownBy w6 v.ownBlock) (hd : v6.ownBlock = v.ownBlock ∨ v6.ownBlock = some (w5.alloc o3).heap.size) : RowsJ base w6 v6 (k + 1) (cs ++ [.slice (some ⟨g5, 0, none⟩) jk c5]) jn jb := by
  have hub : ∀ x, wr.heap.size ≤ x → v.ownBlock ≠ some x := fun x hx e => by have := (HO.lt x e).2; omega
  have s4 := G4.size
  have s5 := G5.size
  have s6 := G6.size
  simp only [World.size_alloc] at s4 s5 s6
  have hg5l := (O5.lt g5 rfl).2
  have R6 : RowsJ base w6 v k cs jn jb := by
    have r1 : RowsJ base (wr.alloc o1) v k cs jn jb := HR.kept (grown_alloc (grown_refl wr none) o1) (.inr ⟨0, .inr rfl⟩)
    have r2 : RowsJ base w4 v k cs jn jb := fun i hi => by
      obtain ⟨b, cap, e1, e2, e3, e4, e5, e6⟩ := HR i hi
      obtain ⟨b', cap', f1, f2, f3, f4, f5, f6⟩ := r1 i hi
      rw [e1] at f1
      cases f1
      exact ⟨b, cap, e1, e2, e3, by omega, e5, fun i hi q hq => G4.cell (f6 i hi q hq) (by simp; omega)⟩
    have r3 : RowsJ base (w4.alloc o2) v k cs jn jb := r2.kept (grown_alloc (grown_refl w4 none) o2) (.inr ⟨0, .inr rfl⟩)
    have r4 : RowsJ base w5 v k cs jn jb := fun i hi => by
      obtain ⟨b, cap, e1, e2, e3, e4, e5, e6⟩ := HR i hi
      obtain ⟨b', cap', f1, f2, f3, f4, f5, f6⟩ := r3 i hi
      rw [e1] at f1
      cases f1
      exact ⟨b, cap, e1, e2, e3, by omega, e5, fun i hi q hq => G5.cell (f6 i hi q hq) (by simp; omega)⟩
    exact (r4.kept (grown_alloc (grown_refl w5 none) o3) (.inr ⟨0, .inr rfl⟩)).kept G6 (.inl rfl)
  intro h hh
  by_cases he : h < k
  · obtain ⟨b, cap, e1, e2, e3, e4, e5, e6⟩ := R6 h he
    obtain ⟨b', cap', f1, f2, f3, f4, f5, f6⟩ := HR h he
    rw [e1] at f1
    cases f1
    refine ⟨b, cap, by rw [List.getElem?_append_left (by omega)]; exact e1, e2, e3, e4, ?_, e6⟩
    rcases hd with hd | hd
    · rw [hd]; exact e5
    · rw [hd]; simp; omega
  · obtain rfl : h = k := by omega
    refine ⟨g5, c5, by rw [List.getElem?_append_right (by omega), hcl, Nat.sub_self, hjk]; rfl, by omega, by omega, by omega, ?_, fun i hi q hq => ?_⟩
    · rcases hd with hd | hd
      · rw [hd]; exact hub _ hg5
      · rw [hd]; simp; omega
    · rw [hjk] at hi ⊢
      have c0 : w5.cell? ⟨g5, i * 5 + q, none⟩ = some (Jb.cell (markJ jk (jb h) i) q) := by
        rw [O5.cellAt (i * 5 + q) (by omega)]
        exact jobCells_get _ _ i q hi hq
      have c1 : (w5.alloc o3).cell? ⟨g5, i * 5 + q, none⟩ = some (Jb.cell (markJ jk (jb h) i) q) := (((Below.refl w5.heap.size w5).alloc (Nat.le_refl _) o3).cell (p := ⟨g5, i * 5 + q, none⟩) hg5l).trans c0
      exact G6.cell c1 (Ne.symm (hub _ hg5))
theorem rows_below {w : World} (HB : Below base w wr) (hb : base = w.heap.size) (HO : wr.ownsRow base 60 1 v k cs) (G4 : (wr.alloc o1).grownBy w4 (some wr.heap.size)) (hg4 : wr.heap.size ≤ g4) (G5 : (w4.alloc o2).grownBy w5 (some g4)) (G6 : (w5.alloc o3).grownBy w6 v.ownBlock) : Below base w w6 := by
  have s0 := HB.size
  have s4 := G4.size
  have s5 := G5.size
  simp only [World.size_alloc] at s4 s5
  have b1 : Below base w w4 := (HB.alloc (by omega) o1).trans (below_grown_opt (B := base) G4 (fun x e => by cases e; omega) (by simp; omega))
  have b2 : Below base w w5 := (b1.alloc (by omega) o2).trans (below_grown_opt (B := base) G5 (fun x e => by cases e; omega) (by simp; omega))
  exact (b2.alloc (by omega) o3).trans (below_grown_opt (B := base) G6 (fun x e => (HO.lt x e).1) (by simp; omega))
theorem rows_end {g6 c6 : Nat} {x : Value} (HR : RowsJ base wr v k cs jn jb) (hcl : cs.length = k) (G6 : ((wr.alloc o1).alloc o2).grownBy w6 v.ownBlock) (hd : some g6 = v.ownBlock ∨ some g6 = some ((wr.alloc o1).alloc o2).heap.size) : RowsJ base w6 (.slice (some ⟨g6, 0, none⟩) k c6) k (cs ++ [x]) jn jb := by
  have R6 : RowsJ base w6 v k cs jn jb := (HR.kept (grown_alloc (grown_alloc (grown_refl wr none) o1) o2) (.inr ⟨0, .inr rfl⟩)).kept G6 (.inl rfl)
  intro h hh
  obtain ⟨b, cap, e1, e2, e3, e4, e5, e6⟩ := R6 h hh
  obtain ⟨b', cap', f1, f2, f3, f4, f5, f6⟩ := HR h hh
  rw [e1] at f1
  cases f1
  refine ⟨b, cap, by rw [List.getElem?_append_left (by omega)]; exact e1, e2, e3, e4, ?_, e6⟩
  show some g6 ≠ some b
  rcases hd with hd | hd
  · rw [hd]; exact e5
  · rw [hd]; simp; omega
theorem rows_mark (HO : wr.ownsRow base 60 1 v k cs) (G6 : ((wr.alloc (.cells #[.int .i64 778, .int .i64 0, .int .i64 0, .int .i64 0, .int .u64 0] 52)).alloc o2).grownBy w6 v.ownBlock) : wr.heap.size < w6.heap.size ∧ w6.cell? ⟨wr.heap.size, 0, none⟩ = some (.int .i64 778) := by
  have s6 := G6.size
  simp only [World.size_alloc] at s6
  have hub : v.ownBlock ≠ some wr.heap.size := fun e => by have := (HO.lt _ e).2; omega
  exact ⟨by omega, G6.cell (by simp) (Ne.symm hub)⟩
theorem end_below {w : World} (HB : Below base w wr) (hb : base = w.heap.size) (HO : wr.ownsRow base 60 1 v k cs) (G6 : ((wr.alloc o1).alloc o2).grownBy w6 v.ownBlock) : Below base w w6 := by
  have s0 := HB.size
  exact ((HB.alloc (by omega) o1).alloc (by simp; omega) o2).trans (below_grown_opt (B := base) G6 (fun x e => (HO.lt x e).1) (by simp; omega))
end
variable {w : World} {aoh : Option Addr} {caph : Nat} {nh : Nat} {jn : Nat → Nat} {jb : Nat → Nat → Jb}
set_option maxHeartbeats 8000000 in
theorem jobs_any (SH : SeesH w w.heap.size aoh nh jn jb) (hnl : ∀ wr, Below w.heap.size w wr → ∀ h, h < nh → ∀ b off c, aoh = some ⟨b, off, none⟩ → wr.cell? ⟨b, off + h, none⟩ = some (.slice none (jn h) c) → c = 0) (hb : (nh + 1) * 24 ≤ 140737488355328) (hbj : ∀ h, h < nh → (jn h + 1) * 40 ≤ 140737488355328) :
    Calls Tryz.prog 8 #[.slice aoh nh caph] w fun e w' => ∃ gh ch, e = .returned (.slice (some ⟨gh, 0, none⟩) nh ch) ∧ nh < ch ∧ w.heap.size ≤ gh ∧ gh < w'.heap.size ∧ ∃ cs : List Value, (∀ h, h < nh + 1 → w'.cell? ⟨gh, h, none⟩ = cs[h]?) ∧ RowsJ w.heap.size w' (.slice (some ⟨gh, 0, none⟩) nh ch) nh cs jn jb ∧
      (∃ b, cs[nh]? = some (.slice (some ⟨b, 0, none⟩) 1 1) ∧ b < w'.heap.size ∧ w'.cell? ⟨b, 0, none⟩ = some (.int .i64 778)) ∧ Below w.heap.size w w' := by
  have HS := hide SH
  have HNL := hide hnl
  have HBJ := hide hbj
  clear SH hnl hbj
  obtain ⟨iJ, hiJ, hzJ, hsJ, hyJ⟩ := infoJ
  obtain ⟨iS, hiS, hzS, hsS, hyS⟩ := infoSl
  have hlen : (nh : Int) ≤ 9223372036854775806 := by omega
  obtain ⟨nh1, hnh1⟩ : ∃ n1, nh + 1 = n1 := ⟨_, rfl⟩
  go_enter Tryz.func8, Tryz.ntmps8
  go_wp2_with (at_make; refine wpList_make_own _ rfl _ _ 25 rfl w.heap.size 60 iS (.slice none 0 0) 1 Tryz.underlying25 hiS hzS hsS _ _ _ nh1 rfl rfl (by omega) (by rw [hyS]; omega) (by unfold maxLen; omega) (Nat.le_refl _) ?_; intro w0 hown0 hgr0; have O0 := hide hown0; have G0 := hide hgr0; clear hown0 hgr0)
  go_loopw [3, 12] (fun v i wr => ∃ k cs, k ≤ nh ∧ i = .int .i64 k ∧ wr.ownsRow w.heap.size 60 1 v k cs ∧ ¬ v = .slice none 0 0 ∧ RowsJ w.heap.size wr v k cs jn jb ∧ Below w.heap.size w wr) (fun _ i _ => nh - (intOf i).toNat)
  case atStart => exact ⟨0, [], Nat.zero_le _, rfl, O0.out, (by simp), fun h hh => absurd hh (Nat.not_lt_zero _), below_of_grown_none G0.out _ (Nat.le_refl _)⟩
  case round =>
    obtain ⟨k, cs, hk, rfl, hown, hvn, hrows, hbl⟩ := hrel
    have hcl : cs.length = k := by have := hown.1; simpa using this
    by_cases hlt : k < nh
    · have hlt' : (k : Int) < nh := by omega
      obtain ⟨bh, offh, av, cv, e0, hl1, hc1, hj1⟩ := (HS.out.below hbl (Nat.le_refl _)) k hlt
      have hcv : av = none → jn k = 0 ∧ cv = 0 := fun e => by
        subst e
        refine ⟨?_, HNL.out wr hbl k hlt bh offh cv e0 hc1⟩
        rcases Nat.eq_zero_or_pos (jn k) with h | h
        · exact h
        · obtain ⟨_, _, e, _⟩ := hj1 0 h
          cases e
      have hbk := HBJ.out k hlt
      obtain ⟨jk, hjk⟩ : ∃ x, jn k = x := ⟨_, rfl⟩
      obtain ⟨pj, hpj⟩ : ∃ x, jb k = x := ⟨_, rfl⟩
      rw [hjk] at hc1 hj1 hcv hbk
      rw [hpj] at hj1
      subst e0
      have HJ := hide hj1
      have HCV := hide hcv
      have HO := hide hown
      have HV := hide hvn
      have HR := hide hrows
      have HB := hide hbl
      have HCL := hide hcl
      have sz0 := hbl.size
      have hjl : (jk : Int) ≤ 9223372036854775806 := by omega
      have mx1 : jk + 1 ≤ maxLen := by unfold maxLen; omega
      have mx2 : k + 1 ≤ maxLen := by unfold maxLen; omega
      have mx3 : (k + 1) * 24 ≤ 140737488355328 := by omega
      clear hj1 hcv hown hvn hrows hbl hcl
      go_wp2_with (first
        | (at_builtin; refine wpList_append_opt rfl (.tmp 17) (.tmp 18) 60 rfl wr.heap.size 52 iJ (.agg #[.int .i64 0, .int .i64 0, .int .i64 0, .int .i64 0, .int .u64 0]) 5 40 Tryz.underlying60 hiJ hzJ hsJ hyJ rfl (by decide) (.slice (some ⟨wr.heap.size, 0, none⟩) 0 0) 0 [] rfl (by have := World.ownsRow_lit (base := wr.heap.size) (e := 52) (size := 5) wr #[] 0 (by simp) (by unfold maxLen; omega) rfl; simpa using this) av jk cv (jobCells pj jk) rfl HCV.out (jobCells_length pj jk) (sees_news (HJ.out.below ((Below.refl w.heap.size wr).alloc sz0 _) (Nat.le_refl _))) (jobCells_one pj jk) (by unfold maxLen; omega) (by omega) (by simp) ?_; intro v4 w4 hown4 hgrow4 hnn; rw [Nat.zero_add, List.nil_append] at hown4; obtain ⟨g4, c4, rfl, hg4, _⟩ := owned_some hown4 (fun he => by have := hnn he; cases this); have O4 := hide hown4; have G4 := hide (show (wr.alloc (.cells #[] 52)).grownBy w4 (some wr.heap.size) from hgrow4); have sz4 := hgrow4.size; simp only [World.size_alloc] at sz4; clear hown4 hgrow4 hnn)
        | (at_builtin; refine wpList_append_opt rfl (.tmp 19) (.tmp 21) 60 rfl wr.heap.size 52 iJ (.agg #[.int .i64 0, .int .i64 0, .int .i64 0, .int .i64 0, .int .u64 0]) 5 40 Tryz.underlying60 hiJ hzJ hsJ hyJ rfl (by decide) (.slice (some ⟨g4, 0, none⟩) jk c4) jk (jobCells pj jk) rfl (O4.out.alloc _) (some ⟨w4.heap.size, 0, none⟩) 1 1 [.int .i64 777, .int .i64 0, .int .i64 0, .int .i64 0, .int .u64 0] rfl (fun h => by cases h) rfl (fun ad had q u hu => by cases had; rw [Go.WideShapes.add_plain]; match q, hu with | 0, hu => injection hu with hu; subst hu; simp | 1, hu => injection hu with hu; subst hu; simp | 2, hu => injection hu with hu; subst hu; simp | 3, hu => injection hu with hu; subst hu; simp | 4, hu => injection hu with hu; subst hu; simp) (by simp [Value.oneCell']) mx1 (by omega) (by simp; omega) ?_; intro v5 w5 hown5 hgrow5 hnn5; rw [marked_jobs] at hown5; obtain ⟨g5, c5, rfl, hg5, hc5⟩ := owned_some hown5 (fun he => by have := hnn5 he; cases this); have O5 := hide hown5; have G5 := hide (show (w4.alloc (.cells #[.int .i64 777, .int .i64 0, .int .i64 0, .int .i64 0, .int .u64 0] 52)).grownBy w5 (some g4) from hgrow5); have sz5 := hgrow5.size; simp only [World.size_alloc] at sz5; clear hown5 hgrow5 hnn5)
        | (at_builtin; refine wpList_append_d rfl (.tmp 16) (.tmp 26) 25 rfl w.heap.size 60 iS (.slice none 0 0) 1 24 Tryz.underlying25 hiS hzS hsS hyS rfl (by decide) u3 k cs rfl (rows_own HO.out G4.out hg4 G5.out) ⟨w5.heap.size, 0, none⟩ 1 1 [.slice (some ⟨g5, 0, none⟩) jk c5] rfl rfl (fun q u hu => by rw [Go.WideShapes.add_plain]; match q, hu with | 0, hu => injection hu with hu; subst hu; simp) (by simp [Value.oneCell']) mx2 mx3 (by simp; omega) ?_; intro v6 w6 hown6 hgrow6 hnn6 hd6; have O6 := hide hown6; have G6 := hide (show (w5.alloc (.cells #[.slice (some ⟨g5, 0, none⟩) jk c5] 60)).grownBy w6 u3.ownBlock from hgrow6); have D6 := hide hd6; have N6 := hide hnn6; clear hown6 hgrow6 hd6 hnn6))
      go_roundw
      case rel => exact ⟨k + 1, _, by omega, by go_num, O6.out, fun e => HV.out (N6.out e), rows_step HR.out HO.out sz0 HCL.out G4.out hg4 G5.out hjk (by rw [hpj]; exact O5.out) hg5 hc5 G6.out D6.out, rows_below HB.out rfl HO.out G4.out hg4 G5.out G6.out⟩
      case measure => simp [intOf]; omega
    · have hlt' : ¬ (k : Int) < nh := by omega
      obtain rfl : k = nh := by omega
      have HO := hide hown
      have HV := hide hvn
      have HR := hide hrows
      have HB := hide hbl
      have sz0 := hbl.size
      have mx2 : k + 1 ≤ maxLen := by unfold maxLen; omega
      have HCL := hide hcl
      clear hown hvn hrows hbl hcl
      go_wp2_with (at_builtin; refine wpList_append_d rfl (.tmp 29) (.tmp 32) 25 rfl w.heap.size 60 iS (.slice none 0 0) 1 24 Tryz.underlying25 hiS hzS hsS hyS rfl (by decide) u3 k cs rfl ((HO.out.alloc _).alloc _) ⟨wr.heap.size + 1, 0, none⟩ 1 1 [.slice (some ⟨wr.heap.size, 0, none⟩) 1 1] rfl rfl (fun q u hu => by rw [Go.WideShapes.add_plain]; match q, hu with | 0, hu => injection hu with hu; subst hu; simp) (by simp [Value.oneCell']) mx2 (by omega) (by simp; omega) ?_; intro v6 w6 hown6 hgrow6 hnn6 hd6; obtain ⟨g6, c6, rfl, hg6, hc6⟩ := owned_some hown6 (fun he => HV.out (hnn6 he)); have O6 := hide hown6; have G6 := hide hgrow6; have D6 := hide hd6; have hc6' : k ≤ c6 := (by omega); clear hown6 hgrow6 hd6 hnn6)
      go_ret
      exact ⟨g6, c6, rfl, by omega, hg6, (O6.out.lt g6 rfl).2, cs ++ [.slice (some ⟨wr.heap.size, 0, none⟩) 1 1], fun h hh => O6.out.cellAt h (by omega), rows_end HR.out HCL.out G6.out D6.out, ⟨wr.heap.size, by rw [List.getElem?_append_right (by have := HCL.out; omega), HCL.out, Nat.sub_self]; rfl, (rows_mark HO.out G6.out).1, (rows_mark HO.out G6.out).2⟩, end_below HB.out rfl HO.out G6.out⟩
end L16
end Go.Proofs.YtnodkeoikamonaaGreat
/-
  Words, jobs and schedule lent, in whatever order the three calls come.
-/
namespace Go.Proofs.YtnodkeoikamonaaGreat
open Go.RowKit
set_option linter.unusedVariables false
set_option linter.unusedSimpArgs false
set_option linter.unnecessarySimpa false
set_option maxRecDepth 20000
namespace L16
def LW (P : Par) (f : Nat → Int) (w : World) (v : Value) : Prop := ∃ g c, v = .slice (some ⟨g, 0, none⟩) P.n c ∧ P.n < c ∧ g < w.heap.size ∧ ∀ i, i < P.n + 1 → w.cell? ⟨g, i, none⟩ = some (.int .u64 (marked P.n f i))
def LI (P : Par) (w : World) (v : Value) : Prop := ∃ g c, v = .slice (some ⟨g, 0, none⟩) P.ns c ∧ P.ns < c ∧ g < w.heap.size ∧ ∀ i, i < P.ns + 1 → w.cell? ⟨g, i, none⟩ = some (.int .i64 (markI P.ns P.sched i))
def LJ (P : Par) (w : World) (v : Value) : Prop := ∃ g c, v = .slice (some ⟨g, 0, none⟩) P.nh c ∧ P.nh < c ∧ g < w.heap.size ∧
  (∀ h, h < P.nh → ∃ b cap, w.cell? ⟨g, h, none⟩ = some (.slice (some ⟨b, 0, none⟩) (P.jn h) cap) ∧ P.jn h < cap ∧ b < w.heap.size ∧ ∀ i, i < P.jn h + 1 → ∀ q, q < 5 → w.cell? ⟨b, i * 5 + q, none⟩ = some (Jb.cell (markJ (P.jn h) (P.jb h) i) q)) ∧
  ∃ b cap, w.cell? ⟨g, P.nh, none⟩ = some (.slice (some ⟨b, 0, none⟩) 1 cap) ∧ b < w.heap.size ∧ w.cell? ⟨b, 0, none⟩ = some (.int .i64 778)
section
variable {P : Par} {f : Nat → Int} {w w' : World} {v : Value}
theorem LW.keep (h : LW P f w v) (hb : Below w.heap.size w w') : LW P f w' v := by
  obtain ⟨g, c, e, h1, h2, h3⟩ := h
  exact ⟨g, c, e, h1, Nat.lt_of_lt_of_le h2 hb.size, fun i hi => (hb.cell (p := ⟨g, i, none⟩) h2).trans (h3 i hi)⟩
theorem LI.keep (h : LI P w v) (hb : Below w.heap.size w w') : LI P w' v := by
  obtain ⟨g, c, e, h1, h2, h3⟩ := h
  exact ⟨g, c, e, h1, Nat.lt_of_lt_of_le h2 hb.size, fun i hi => (hb.cell (p := ⟨g, i, none⟩) h2).trans (h3 i hi)⟩
theorem LJ.keep (h : LJ P w v) (hb : Below w.heap.size w w') : LJ P w' v := by
  obtain ⟨g, c, e, h1, h2, h3, b, cap, h4, h5, h6⟩ := h
  refine ⟨g, c, e, h1, Nat.lt_of_lt_of_le h2 hb.size, fun h hh => ?_, b, cap, (hb.cell (p := ⟨g, P.nh, none⟩) h2).trans h4, Nat.lt_of_lt_of_le h5 hb.size, (hb.cell (p := ⟨b, 0, none⟩) h5).trans h6⟩
  obtain ⟨b', cap', g1, g2, g3, g4⟩ := h3 h hh
  exact ⟨b', cap', (hb.cell (p := ⟨g, h, none⟩) h2).trans g1, g2, Nat.lt_of_lt_of_le g3 hb.size, fun i hi q hq => (hb.cell (p := ⟨b', i * 5 + q, none⟩) g3).trans (g4 i hi q hq)⟩
theorem lent_of {v1 v2 v3 : Value} (h1 : LW P f w v1) (h2 : LJ P w v2) (h3 : LI P w v3) : ∃ gw cw gh ch gs cs, v1 = .slice (some ⟨gw, 0, none⟩) P.n cw ∧ v2 = .slice (some ⟨gh, 0, none⟩) P.nh ch ∧ v3 = .slice (some ⟨gs, 0, none⟩) P.ns cs ∧ Lent w.heap.size w P f gw cw gh ch gs cs := by
  obtain ⟨gw, cw, e1, a1, a2, a3⟩ := h1
  obtain ⟨gh, ch, e2, b1, b2, b3, b4⟩ := h2
  obtain ⟨gs, cs, e3, c1, c2, c3⟩ := h3
  exact ⟨gw, cw, gh, ch, gs, cs, e1, e2, e3, a3, c3, b3, b4, a1, b1, c1, a2, b2, c2⟩
end
structure TW (P : Par) (f : Nat → Int) (w1 : World) (l2 l5 l8 l9 l10 l11 : Bool) (s : Nat → Value) (w : World) : Prop where
  bel : Below w1.heap.size w1 w
  a : l2 = true → LW P f w (s 34)
  b : l5 = true → LJ P w (s 37)
  c : l8 = true → LI P w (s 40)
  d : l9 = true → l2 = true ∧ s 6 = s 34
  e : l10 = true → l5 = true ∧ s 7 = s 37
  g : l11 = true → l8 = true ∧ s 8 = s 40
section
variable {P : Par} {f : Nat → Int} {w1 w w' : World} {s s' : Nat → Value} {l2 l5 l8 l9 l10 l11 : Bool} {v : Value}
theorem TW.local (h : TW P f w1 l2 l5 l8 l9 l10 l11 s w) (e : ∀ k, [34, 37, 40, 6, 7, 8].contains k = true → s k = s' k) : TW P f w1 l2 l5 l8 l9 l10 l11 s' w := by
  have e34 := e 34 rfl
  have e37 := e 37 rfl
  have e40 := e 40 rfl
  have e6 := e 6 rfl
  have e7 := e 7 rfl
  have e8 := e 8 rfl
  exact ⟨h.bel, fun q => by rw [← e34]; exact h.a q, fun q => by rw [← e37]; exact h.b q, fun q => by rw [← e40]; exact h.c q, fun q => ⟨(h.d q).1, by rw [← e34, ← e6]; exact (h.d q).2⟩, fun q => ⟨(h.e q).1, by rw [← e37, ← e7]; exact (h.e q).2⟩, fun q => ⟨(h.g q).1, by rw [← e40, ← e8]; exact (h.g q).2⟩⟩
theorem TW.skip {L : Nat → Bool} {i : Nat} (h2 : 2 ≠ i) (h5 : 5 ≠ i) (h8 : 8 ≠ i) (h9 : 9 ≠ i) (h10 : 10 ≠ i) (h11 : 11 ≠ i) (h : TW P f w1 (L 2) (L 5) (L 8) (L 9) (L 10) (L 11) s w) : TW P f w1 (upd L i true 2) (upd L i true 5) (upd L i true 8) (upd L i true 9) (upd L i true 10) (upd L i true 11) s w := by
  rwa [upd_other _ _ h2, upd_other _ _ h5, upd_other _ _ h8, upd_other _ _ h9, upd_other _ _ h10, upd_other _ _ h11]
theorem TW.lent (h : TW P f w1 l2 l5 l8 l9 l10 l11 s w) (h2 : l2 = false) (hb : Below w.heap.size w w') (hv : LW P f w' v) : TW P f w1 true l5 l8 l9 l10 l11 (fun k => if k = 34 then v else s k) w' :=
  ⟨h.bel.trans (hb.mono h.bel.size), fun _ => hv, fun q => (h.b q).keep hb, fun q => (h.c q).keep hb, fun q => absurd (h.d q).1 (by rw [h2]; decide), fun q => h.e q, fun q => h.g q⟩
theorem TW.jobs (h : TW P f w1 l2 l5 l8 l9 l10 l11 s w) (h5 : l5 = false) (hb : Below w.heap.size w w') (hv : LJ P w' v) : TW P f w1 l2 true l8 l9 l10 l11 (fun k => if k = 37 then v else s k) w' :=
  ⟨h.bel.trans (hb.mono h.bel.size), fun q => (h.a q).keep hb, fun _ => hv, fun q => (h.c q).keep hb, fun q => h.d q, fun q => absurd (h.e q).1 (by rw [h5]; decide), fun q => h.g q⟩
theorem TW.nums (h : TW P f w1 l2 l5 l8 l9 l10 l11 s w) (h8 : l8 = false) (hb : Below w.heap.size w w') (hv : LI P w' v) : TW P f w1 l2 l5 true l9 l10 l11 (fun k => if k = 40 then v else s k) w' :=
  ⟨h.bel.trans (hb.mono h.bel.size), fun q => (h.a q).keep hb, fun q => (h.b q).keep hb, fun _ => hv, fun q => h.d q, fun q => h.e q, fun q => absurd (h.g q).1 (by rw [h8]; decide)⟩
theorem TW.c6 (h : TW P f w1 l2 l5 l8 l9 l10 l11 s w) (h2 : l2 = true) : TW P f w1 l2 l5 l8 true l10 l11 (fun k => if k = 6 then s 34 else s k) w :=
  ⟨h.bel, h.a, h.b, h.c, fun _ => ⟨h2, rfl⟩, h.e, h.g⟩
theorem TW.c7 (h : TW P f w1 l2 l5 l8 l9 l10 l11 s w) (h2 : l5 = true) : TW P f w1 l2 l5 l8 l9 true l11 (fun k => if k = 7 then s 37 else s k) w :=
  ⟨h.bel, h.a, h.b, h.c, h.d, fun _ => ⟨h2, rfl⟩, h.g⟩
theorem TW.c8 (h : TW P f w1 l2 l5 l8 l9 l10 l11 s w) (h2 : l8 = true) : TW P f w1 l2 l5 l8 l9 l10 true (fun k => if k = 8 then s 40 else s k) w :=
  ⟨h.bel, h.a, h.b, h.c, h.d, h.e, fun _ => ⟨h2, rfl⟩⟩
end
variable {P : Par} {f : Nat → Int} {w w1 : World} {ao aoh aos : Option Addr} {cap caph caps : Nat}
theorem lent_c (S : Sees w w.heap.size ao P.n f) (hnil : ao = none → P.n = 0 ∧ cap = 0) (hf : ∀ i, i < P.n → 0 ≤ f i ∧ f i ≤ 18446744073709551615) (hb : (P.n + 1) * 8 ≤ 140737488355328) (w' : World) (B : Below w.heap.size w w') : Calls Tryz.prog 7 #[.slice ao P.n cap] w' fun e w'' => ∃ v, e = .returned v ∧ LW P f w'' v ∧ Below w'.heap.size w' w'' :=
  (lent_any ((S.below B (Nat.le_refl _)).mono B.size) hnil hf hb).mono fun e w'' ⟨g, c, he, h1, h2, h3, h4⟩ => ⟨_, he, ⟨g, c, rfl, h1, h2.lt, fun i hi => h2.cell hi⟩, h4⟩
theorem nums_c (S : SeesI w w.heap.size aos P.ns P.sched) (hnil : aos = none → P.ns = 0 ∧ caps = 0) (hb : (P.ns + 1) * 8 ≤ 140737488355328) (w' : World) (B : Below w.heap.size w w') : Calls Tryz.prog 9 #[.slice aos P.ns caps] w' fun e w'' => ∃ v, e = .returned v ∧ LI P w'' v ∧ Below w'.heap.size w' w'' :=
  (numbers_any ((S.below B (Nat.le_refl _)).up B.size) hnil hb).mono fun e w'' ⟨g, c, he, h1, h2, h3, h4⟩ => ⟨_, he, ⟨g, c, rfl, h1, by obtain ⟨b, off, e, hl, _⟩ := h2 0 (by omega); cases e; exact hl, fun i hi => by obtain ⟨b, off, e, hl, hc⟩ := h2 i hi; cases e; simpa using hc⟩, h4⟩
theorem jobs_c (S : SeesH w w.heap.size aoh P.nh P.jn P.jb) (hnl : ∀ h, h < P.nh → ∀ b off c, aoh = some ⟨b, off, none⟩ → w.cell? ⟨b, off + h, none⟩ = some (.slice none (P.jn h) c) → c = 0) (hb : (P.nh + 1) * 24 ≤ 140737488355328) (hbj : ∀ h, h < P.nh → (P.jn h + 1) * 40 ≤ 140737488355328) (w' : World) (B : Below w.heap.size w w') : Calls Tryz.prog 8 #[.slice aoh P.nh caph] w' fun e w'' => ∃ v, e = .returned v ∧ LJ P w'' v ∧ Below w'.heap.size w' w'' := by
  refine (jobs_any ((S.below B (Nat.le_refl _)).up B.size) (fun wr hbr h hh b off c e1 e2 => hnl h hh b off c e1 ?_) hb hbj).mono fun e w'' ⟨g, c, he, h1, h2, h3, cs, h4, h5, ⟨b, h6, h7, h8⟩, h9⟩ => ⟨_, he, ⟨g, c, rfl, h1, h3, fun h hh => ?_, b, 1, (h4 P.nh (by omega)).trans h6, h7, h8⟩, h9⟩
  · obtain ⟨b', off', ao', cap', q1, q2, _⟩ := S h hh
    rw [e1] at q1
    cases q1
    have c1 := (hbr.cell (p := ⟨b, off + h, none⟩) (show b < w'.heap.size by have := B.size; omega))
    have c2 := (B.cell (p := ⟨b, off + h, none⟩) q2)
    exact (c2.symm.trans c1.symm).trans e2
  · obtain ⟨b', cap', e1, e2, e3, e4, e5, e6⟩ := h5 h hh
    exact ⟨b', cap', (h4 h (by omega)).trans e1, e2, e4, e6⟩
end L16
end Go.Proofs.YtnodkeoikamonaaGreat
