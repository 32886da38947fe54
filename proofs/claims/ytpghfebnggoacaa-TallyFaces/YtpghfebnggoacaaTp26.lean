/-
  Lemmas: RRetN, TallyRA, TallyRB, TallyRC, TallyRK, L5Wrong.
-/
import Derived.Test.YtpghfebnggoacaaTp22
import Derived.Test.YtpghfebnggoacaaTp08
import Derived.Test.YtpghfebnggoacaaTp24
import Derived.Test.YtpghfebnggoacaaTp25
/-
  A region that draws its order, reads by a table and writes two variables made ahead of it.
-/
namespace Go.Proofs.Ytpghfebnggoacaa
open Go.RowKit
set_option linter.unusedVariables false
set_option linter.unusedSimpArgs false
set_option linter.unnecessarySimpa false

namespace RetN

def pv (ks : List (Nat × Nat)) (vals : Nat → Value) (i : Nat) : Option (Nat × Value) := (Reg.look ks i).map (fun d => (d, vals i))
def D (ks : List (Nat × Nat)) (k : Nat) : Prop := (ks.any (fun p => p.2 == k)) = true

structure In (ks : List (Nat × Nat)) (vals : Nat → Value) (w0 : World) (a0 : Act) (C E iC iE : Nat) (lt ls : List Value) (L : Nat → Bool) (a : Act) (w : World) : Prop where
  sz : a.tmps.size = a0.tmps.size
  df : a.defers = a0.defers
  fix : ∀ k, ¬ D ks k → a.eval (.tmp k) = a0.eval (.tmp k)
  pure : ∀ i d v, pv ks vals i = some (d, v) → L i = true → a.eval (.tmp d) = v
  tch : Touch w0 w (fun k => k = C ∨ k = E)
  tC : w.there C 0 lt.length
  tE : w.there E 0 ls.length
  sC : L iC = true → w.rangeAt C 0 lt
  sE : L iE = true → w.rangeAt E 0 ls

theorem region {P : Program} {id : Nat} {ops : Array Oper} {Q : Exit → Act → World → Prop} {ks : List (Nat × Nat)} {vals : Nat → Value} {w0 : World} {a0 : Act} {C E iC iE : Nat} {lt ls : List Value}
    (hm : P.follows .mixedOrders = true) (hg : ∀ (i : Nat) (o : Oper), ops[i]? = some o → o.guard = none) (hback : ∀ (i : Nat) (o : Oper), ops[i]? = some o → ∀ e ∈ o.after, Region.binds .any e = true → e.on < i)
    (hgood : (ks.all fun p => (ks.all fun q => p.1 == q.1 || p.2 != q.2) && (p.1 != iC && p.1 != iE)) = true) (hCE : C ≠ E) (hi : iC ≠ iE) (hD : ∀ k, D ks k → k < a0.tmps.size)
    (hl : ∀ u ∈ lt, u.oneCell' = true) (hs : ∀ u ∈ ls, u.oneCell' = true) (tC : w0.there C 0 lt.length) (tE : w0.there E 0 ls.length)
    (kinds : ∀ (i : Nat) (o : Oper), ops[i]? = some o →
      (∃ d v, pv ks vals i = some (d, v) ∧ o.dst = some d ∧ ∀ L a w, In ks vals w0 a0 C E iC iE lt ls L a w → (∀ e ∈ o.after, Region.binds .any e = true → L e.on = true) → (execOp a.eval o).run P w = .ok (.value v) w) ∨
      (i = iC ∧ o.dst = none ∧ ∃ ty x y, o.op = .store ty x y ∧ (P.info? ty).map (·.size) = some lt.length ∧ ∀ L a w, In ks vals w0 a0 C E iC iE lt ls L a w → (∀ e ∈ o.after, Region.binds .any e = true → L e.on = true) → a.eval x = .pointer (some ⟨C, 0, none⟩) ∧ a.eval y = .agg lt.toArray) ∨
      (i = iE ∧ o.dst = none ∧ ∃ ty x y, o.op = .store ty x y ∧ (P.info? ty).map (·.size) = some ls.length ∧ ∀ L a w, In ks vals w0 a0 C E iC iE lt ls L a w → (∀ e ∈ o.after, Region.binds .any e = true → L e.on = true) → a.eval x = .pointer (some ⟨E, 0, none⟩) ∧ a.eval y = .agg ls.toArray))
    (fin : ∀ L a w, In ks vals w0 a0 C E iC iE lt ls L a w → (∀ i, i < ops.size → L i = true) → Q .normal a w) :
    (Code.region id ops true).wp P Q a0 w0 := by
  simp only [Bool.and_eq_true, List.all_eq_true, bne_iff_ne, Bool.or_eq_true, beq_iff_eq] at hgood
  have pvm : ∀ {i d v}, pv ks vals i = some (d, v) → (i, d) ∈ ks := fun {i d v} h => by
    obtain ⟨d', h1, h2⟩ := Option.map_eq_some_iff.1 h
    cases h2; exact Reg.look_mem h1
  refine region_inv hm hg hback (fun L a w => In ks vals w0 a0 C E iC iE lt ls L a w) ?step (fun L a w h hall => fin L a w h hall) ?start
  case start => exact ⟨rfl, rfl, fun _ _ => rfl, fun _ _ _ _ h => (by cases h), ⟨rfl, rfl, rfl, Nat.le_refl _, fun _ _ _ => rfl⟩, tC, tE, fun h => (by cases h), fun h => (by cases h)⟩
  case step =>
    rintro L a w i o h ho hL hd
    rcases kinds i o ho with ⟨d, v, hv, hdst, hrun⟩ | ⟨rfl, hdst, ty, x, y, hop, hsz, hev⟩ | ⟨rfl, hdst, ty, x, y, hop, hsz, hev⟩
    · refine wp_value (hrun L a w h hd) ?_
      rw [hdst]
      have hm' := pvm hv
      obtain ⟨hap, hnC, hnE⟩ := hgood _ hm'
      have hDd : D ks d := by simp only [D, List.any_eq_true, beq_iff_eq]; exact ⟨_, hm', rfl⟩
      have e : ∀ k : Nat, k ≠ d → (a.put (some d) v).eval (.tmp k) = a.eval (.tmp k) := fun k hk => put_other hk
      refine ⟨by rw [put_size]; exact h.sz, by rw [put_defs]; exact h.df, fun k hk => ?_, fun j d' v' hj hLj => ?_, h.tch, h.tC, h.tE, fun h1 => h.sC ?_, fun h1 => h.sE ?_⟩
      · rw [e k (fun he => hk (he ▸ hDd))]; exact h.fix k hk
      · by_cases hij : j = i
        · subst hij
          rw [hv] at hj; cases hj
          exact put_eval (by rw [h.sz]; exact hD _ hDd)
        · rw [upd_other _ _ hij] at hLj
          have : d' ≠ d := by
            rcases hap _ (pvm hj) with e1 | e1
            · exact absurd e1.symm hij
            · exact Ne.symm e1
          rw [e d' this]
          exact h.pure j d' v' hj hLj
      · rwa [upd_other _ _ (Ne.symm hnC)] at h1
      · rwa [upd_other _ _ (Ne.symm hnE)] at h1
    · obtain ⟨px, py⟩ := hev L a w h hd
      refine wp_store_mid ty x y hop C 0 lt.toArray px py (by simpa using h.tC) (by simpa using hsz) (all_oneCell_toArray hl) ?_
      rw [hdst]
      have tt := touch_setCells C lt 0 w
      have sm := World.rangeAt_setCells_same w C 0 lt h.tC
      have nk : ∀ {j d v}, pv ks vals j = some (d, v) → j ≠ i := fun {j d v} hj => (hgood _ (pvm hj)).2.1
      exact ⟨h.sz, h.df, h.fix, fun j d' v' hj hLj => h.pure j d' v' hj (by rwa [upd_other _ _ (nk hj)] at hLj), h.tch.trans' tt (fun k _ h => .inl h), World.there_setCells h.tC _ _ _, World.there_setCells h.tE _ _ _, fun _ => sm, fun h1 => World.rangeAt_setCells_apart (h.sE (by rwa [upd_other _ _ (Ne.symm hi)] at h1)) _ _ _ (.inl (Ne.symm hCE))⟩
    · obtain ⟨px, py⟩ := hev L a w h hd
      refine wp_store_mid ty x y hop E 0 ls.toArray px py (by simpa using h.tE) (by simpa using hsz) (all_oneCell_toArray hs) ?_
      rw [hdst]
      have tt := touch_setCells E ls 0 w
      have sm := World.rangeAt_setCells_same w E 0 ls h.tE
      have nk : ∀ {j d v}, pv ks vals j = some (d, v) → j ≠ i := fun {j d v} hj => (hgood _ (pvm hj)).2.2
      exact ⟨h.sz, h.df, h.fix, fun j d' v' hj hLj => h.pure j d' v' hj (by rwa [upd_other _ _ (nk hj)] at hLj), h.tch.trans' tt (fun k _ h => .inr h), World.there_setCells h.tC _ _ _, World.there_setCells h.tE _ _ _, fun h1 => World.rangeAt_setCells_apart (h.sC (by rwa [upd_other _ _ hi] at h1)) _ _ _ (.inl hCE), fun _ => sm⟩
end RetN
end Go.Proofs.Ytpghfebnggoacaa

/-
  The tally's reference: Step: Count and Sum.
-/
namespace Go.Proofs.Ytpghfebnggoacaa
open Go.RowKit
set_option linter.unusedVariables false
set_option linter.unusedSimpArgs false
set_option linter.unnecessarySimpa false
set_option maxRecDepth 20000
namespace Tally

theorem field46_5 (w : World) (b : Nat) : (Instr.fieldAt 73 (.pointer (some ⟨b, 0, none⟩)) 5).run Try.prog w = .ok (.pointer (some ⟨b, 5, none⟩)) w := by simp [go_sem]
theorem agg4 (w : World) : (isAgg 4).run Try.prog w = .ok false w := by simp [go_sem]

set_option maxHeartbeats 4000000 in
theorem rcount {w : World} {g n cap : Nat} {f f' : Nat → Int} {x : Stp} {s0 s1 s2 s3 s4 s5 hand a b c hh r val st : Int} {ok : Bool} (hr : IsRow w g n cap f) (hw : 0 ≤ hh ∧ hh ≤ 18446744073709551615) (hx : stepOf n f ⟨hand, 4, a, 0, hh, true⟩ = x) (hf' : wordsOf n f ⟨hand, 4, a, 0, hh, true⟩ = f') :
    Calls Try.prog 36 #[.agg (tk ⟨s0, s1, s2, s3, s4, s5⟩ hand ⟨1, a, b, c, hh⟩ st ⟨r, 0, 0, 0, 0, 0, 0, 0⟩ ⟨ok, val⟩).toArray, .slice (some ⟨g, 0, none⟩) n cap] w fun e w' =>
      e = .returned (.tuple #[.agg (tk ⟨s0, s1, s2, s3, s4, s5⟩ hand ⟨1, a, b, c, hh⟩ st ⟨r, 0, 0, 0, 0, 0, 0, 0⟩ ⟨true, x.put⟩).toArray, x.val, .bool true]) ∧ IsRow w' g n cap f' ∧ w.grownBy w' (some g) := by
  have DO := hide (fun (w' : World) (hr' : IsRow w' g n cap f) => ref_do (s := ⟨hand, 4, a, 0, hh, true⟩) hr' hw ⟨by show (1 : Int) ≤ 4; decide, by show (4 : Int) ≤ 5; decide⟩)
  have HX := hide hx
  have HF := hide hf'
  have lg := hr.lt
  obtain ⟨l0, hl0⟩ : ∃ l, tk ⟨s0, s1, s2, s3, s4, s5⟩ hand ⟨1, a, b, c, hh⟩ st ⟨r, 0, 0, 0, 0, 0, 0, 0⟩ ⟨ok, val⟩ = l := ⟨_, rfl⟩
  have hl0' : l0.length = 28 := by rw [← hl0]; rfl
  have hset : ((l0.set 22 (.bool true)).set 23 (.int .u64 x.put)) = tk ⟨s0, s1, s2, s3, s4, s5⟩ hand ⟨1, a, b, c, hh⟩ st ⟨r, 0, 0, 0, 0, 0, 0, 0⟩ ⟨true, x.put⟩ := by rw [← hl0]; rfl
  obtain ⟨l1, hl1⟩ : ∃ l, tk ⟨s0, s1, s2, s3, s4, s5⟩ hand ⟨1, a, b, c, hh⟩ st ⟨r, 0, 0, 0, 0, 0, 0, 0⟩ ⟨true, x.put⟩ = l := ⟨_, rfl⟩
  rw [hl0, hl1]
  rw [hl1] at hset
  have hl1i := hide (show IsTk l1 from by rw [← hl1]; exact tk_is _ _ _ _ _ _)
  obtain ⟨W3, hW3⟩ : ∃ W3, ((w.alloc (.cells l0.toArray 62)).alloc (.cells tk0.toArray 62)).alloc (.cells [Value.int .i64 0, .int .i64 0, .int .i64 0, .int .u64 0, .int .u64 0, .bool false].toArray 73) = W3 := ⟨_, rfl⟩
  have sz3 : W3.heap.size = w.heap.size + 3 := by rw [← hW3]; simp
  have R0 : W3.rowIs w.heap.size 62 28 (lrow l0) := by rw [← hW3]; exact ((rowL_alloc w l0 _ hl0').alloc _).alloc _
  have R1 : W3.rowIs (w.heap.size + 1) 62 28 (lrow tk0) := by
    rw [← hW3]
    have := (rowL_alloc (w.alloc (.cells l0.toArray 62)) tk0 62 (n := 28) rfl).alloc (.cells [Value.int .i64 0, .int .i64 0, .int .i64 0, .int .u64 0, .int .u64 0, .bool false].toArray 73)
    rwa [World.size_alloc] at this
  have R2 : W3.rowIs (w.heap.size + 2) 73 6 (lrow [Value.int .i64 0, .int .i64 0, .int .i64 0, .int .u64 0, .int .u64 0, .bool false]) := by
    rw [← hW3]
    have := rowL_alloc ((w.alloc (.cells l0.toArray 62)).alloc (.cells tk0.toArray 62)) [Value.int .i64 0, .int .i64 0, .int .i64 0, .int .u64 0, .int .u64 0, .bool false] 73 (n := 6) rfl
    rwa [World.size_alloc, World.size_alloc] at this
  have G3 : w.grownBy W3 (some g) := by rw [← hW3]; exact grown_alloc (grown_alloc (grown_alloc (grown_refl _ _) _) _) _
  have HR3 := hide (show IsRow W3 g n cap f from hr.grown (grown_none (by rw [← hW3]; exact grown_alloc (grown_alloc (grown_alloc (grown_refl _ _) _) _) _) none) (by simp))
  have cell : ∀ i v, l0[i]? = some v → W3.cell? ⟨w.heap.size, i, none⟩ = some v := fun i v hv => by rw [R0.cell (i := i) (by have := (List.getElem?_eq_some_iff.1 hv).1; omega), lrow_of hv]
  have g5 : l0[5]? = some (.int .i64 s5) := by rw [← hl0]; rfl
  have g6 : l0[6]? = some (.int .i64 hand) := by rw [← hl0]; rfl
  have g7 : l0[7]? = some (.int .i64 1) := by rw [← hl0]; rfl
  have g8 : l0[8]? = some (.int .i64 a) := by rw [← hl0]; rfl
  have g11 : l0[11]? = some (.int .u64 hh) := by rw [← hl0]; rfl
  have g12 : l0[12]? = some (.int .i64 st) := by rw [← hl0]; rfl
  have g13 : l0[13]? = some (.int .u64 r) := by rw [← hl0]; rfl
  have g22 : l0[22]? = some (.bool ok) := by rw [← hl0]; rfl
  have g23 : l0[23]? = some (.int .u64 val) := by rw [← hl0]; rfl
  have c5 := cell 5 _ g5
  have c6 := cell 6 _ g6
  have c7 := cell 7 _ g7
  have c8 := cell 8 _ g8
  have c11 := cell 11 _ g11
  have c12 := cell 12 _ g12
  have c13 := cell 13 _ g13
  have c22 := cell 22 _ g22
  have c23 := cell 23 _ g23
  have G5 := hide g5
  have G6 := hide g6
  have G7 := hide g7
  have G8 := hide g8
  have G11 := hide g11
  have G12 := hide g12
  have G13 := hide g13
  have G22 := hide g22
  have G23 := hide g23
  obtain ⟨dT, hdT1, hdT2⟩ := row79
  obtain ⟨dS, hdS1, hdS2⟩ := row46
  have HD := hide (And.intro hdT1 (And.intro hdT2 (And.intro hdS1 hdS2)))
  have HR0 := hide R0
  have HR1 := hide R1
  have HR2 := hide R2
  have HG3 := hide G3
  have HSET := hide hset
  have HL0 := hide hl0'
  clear hx hf' hr R0 R1 R2 G3 cell hset hl0' hl0 hl1 hdT1 hdT2 hdS1 hdS2 g5 g6 g7 g8 g11 g12 g13 g22 g23
  simp only [tk0] at hW3
  go_enter Try.func36, Try.ntmps36
  go_wp2_with (go_at_call 47; refine (DO.out _ HR3.out).mono ?_; rintro e w1 ⟨rfl, hr1, hg1⟩; rw [HX.out]; rw [HF.out] at hr1; simp only [Stp.val]; have sz1 := hg1.size; have HR4 := hide (HR0.out.of_block (hg1.block w.heap.size (by omega) (by simp; omega))); have HR5 := hide (HR1.out.of_block (hg1.block (w.heap.size + 1) (by omega) (by simp; omega))); have HR6 := hide (HR2.out.of_block (hg1.block (w.heap.size + 2) (by omega) (by simp; omega))); have HR1' := hide hr1; have HG1 := hide hg1; have e5 : w1.cell? ⟨w.heap.size, 5, none⟩ = some (.int .i64 s5) := (by rw [HR4.out.cell (i := 5) (by omega), lrow_of G5.out]); have f5 := HR4.out.frozen 5; have e6 : w1.cell? ⟨w.heap.size, 6, none⟩ = some (.int .i64 hand) := (by rw [HR4.out.cell (i := 6) (by omega), lrow_of G6.out]); have f6 := HR4.out.frozen 6; have e7 : w1.cell? ⟨w.heap.size, 7, none⟩ = some (.int .i64 1) := (by rw [HR4.out.cell (i := 7) (by omega), lrow_of G7.out]); have f7 := HR4.out.frozen 7; have e8 : w1.cell? ⟨w.heap.size, 8, none⟩ = some (.int .i64 a) := (by rw [HR4.out.cell (i := 8) (by omega), lrow_of G8.out]); have f8 := HR4.out.frozen 8; have e11 : w1.cell? ⟨w.heap.size, 11, none⟩ = some (.int .u64 hh) := (by rw [HR4.out.cell (i := 11) (by omega), lrow_of G11.out]); have f11 := HR4.out.frozen 11; have e12 : w1.cell? ⟨w.heap.size, 12, none⟩ = some (.int .i64 st) := (by rw [HR4.out.cell (i := 12) (by omega), lrow_of G12.out]); have f12 := HR4.out.frozen 12; have e13 : w1.cell? ⟨w.heap.size, 13, none⟩ = some (.int .u64 r) := (by rw [HR4.out.cell (i := 13) (by omega), lrow_of G13.out]); have f13 := HR4.out.frozen 13; have e22 : w1.cell? ⟨w.heap.size, 22, none⟩ = some (.bool ok) := (by rw [HR4.out.cell (i := 22) (by omega), lrow_of G22.out]); have f22 := HR4.out.frozen 22; have e23 : w1.cell? ⟨w.heap.size, 23, none⟩ = some (.int .u64 val) := (by rw [HR4.out.cell (i := 23) (by omega), lrow_of G23.out]); have f23 := HR4.out.frozen 23; have l1w : w.heap.size < w1.heap.size := (by omega); clear hr1 hg1 c5 c6 c7 c8 c11 c12 c13 c22 c23)
  obtain ⟨w2, hw2⟩ : ∃ w2, ((w1.setCell ⟨w.heap.size, 22, none⟩ (.bool true)).setCell ⟨w.heap.size, 23, none⟩ (.int .u64 x.put)) = w2 := ⟨_, rfl⟩
  have sz2 : w2.heap.size = w1.heap.size := by rw [← hw2]; simp
  have tt2 : Touch w1 w2 (fun k => k = w.heap.size) := by rw [← hw2]; exact (Touch.setCell (S := fun k => k = w.heap.size) (Touch.setCell (S := fun k => k = w.heap.size) (Touch.refl w1 _) ⟨w.heap.size, 22, none⟩ (.inl rfl) _) ⟨w.heap.size, 23, none⟩ (.inl rfl) _)
  have rA : (w2.alloc (.cells [Value.int .i64 x.hand, .int .i64 x.act, .int .i64 x.at_, .int .u64 x.had, .int .u64 x.put, .bool x.ok].toArray 73)).rangeAt w.heap.size 0 l1 := by
    have := rowIs.range (rowIs.setL (rowIs.setL HR4.out (i := 22) (by simp [HL0.out]) (.bool true)) (i := 23) (by simp [HL0.out]) (.int .u64 x.put)) (by simp [HL0.out])
    rw [HSET.out, hw2] at this
    exact World.rangeAt_alloc this _
  have rB : (w2.alloc (.cells [Value.int .i64 x.hand, .int .i64 x.act, .int .i64 x.at_, .int .u64 x.had, .int .u64 x.put, .bool x.ok].toArray 73)).rangeAt w1.heap.size 0 [Value.int .i64 x.hand, .int .i64 x.act, .int .i64 x.at_, .int .u64 x.had, .int .u64 x.put, .bool x.ok] := by
    have := rowIs.range (rowL_alloc w2 [Value.int .i64 x.hand, .int .i64 x.act, .int .i64 x.at_, .int .u64 x.had, .int .u64 x.put, .bool x.ok] 73 (n := 6) rfl) rfl
    rwa [sz2] at this
  have tC : (w2.alloc (.cells [Value.int .i64 x.hand, .int .i64 x.act, .int .i64 x.at_, .int .u64 x.had, .int .u64 x.put, .bool x.ok].toArray 73)).there (w.heap.size + 1) 0 28 := rowIs.there ((HR5.out.of_block (tt2.block _ (by omega) (by omega))).alloc _) (by omega)
  have tD : (w2.alloc (.cells [Value.int .i64 x.hand, .int .i64 x.act, .int .i64 x.at_, .int .u64 x.had, .int .u64 x.put, .bool x.ok].toArray 73)).there (w.heap.size + 2) 0 6 := rowIs.there ((HR6.out.of_block (tt2.block _ (by omega) (by omega))).alloc _) (by omega)
  have rW : IsRow (w2.alloc (.cells [Value.int .i64 x.hand, .int .i64 x.act, .int .i64 x.at_, .int .u64 x.had, .int .u64 x.put, .bool x.ok].toArray 73)) g n cap f' := (HR1'.out.block (tt2.block g (by omega) (by omega))).alloc _
  have TW : Touch w (w2.alloc (.cells [Value.int .i64 x.hand, .int .i64 x.act, .int .i64 x.at_, .int .u64 x.had, .int .u64 x.put, .bool x.ok].toArray 73)) (fun k => k = g) := (((Touch.of_grown HG3.out).mono (S' := fun k => k = g) (fun k _ h => by simpa using h)).trans' (Touch.of_grown HG1.out) (fun k _ h => by simpa using h)).trans' (tt2.alloc _) (fun k hk h => absurd hk (by omega))
  have szA : (w2.alloc (.cells [Value.int .i64 x.hand, .int .i64 x.act, .int .i64 x.at_, .int .u64 x.had, .int .u64 x.put, .bool x.ok].toArray 73)).heap.size = w1.heap.size + 1 := by simp [sz2]
  rw [hw2]
  have HTW := hide TW
  have HRW := hide rW
  clear TW rW hw2
  obtain ⟨WA, hWA⟩ : ∃ W, (w2.alloc (.cells [Value.int .i64 x.hand, .int .i64 x.act, .int .i64 x.at_, .int .u64 x.had, .int .u64 x.put, .bool x.ok].toArray 73)) = W := ⟨_, rfl⟩
  rw [hWA] at rA rB tC tD szA HTW HRW
  have goA : (w2.alloc (.cells #[Value.int .i64 x.hand, .int .i64 x.act, .int .i64 x.at_, .int .u64 x.had, .int .u64 x.put, .bool x.ok] 73)) = WA := hWA
  simp only [goA]
  clear goA hWA
  refine RetN.region (ks := [(0, 31), (1, 32), (4, 6)]) (vals := fun i => match i with
      | 0 => .agg l1.toArray
      | 1 => .agg #[Value.int .i64 x.hand, .int .i64 x.act, .int .i64 x.at_, .int .u64 x.had, .int .u64 x.put, .bool x.ok]
      | _ => .bool true) (C := w.heap.size + 1) (E := w.heap.size + 2) (iC := 2) (iE := 3) (lt := l1) (ls := [Value.int .i64 x.hand, .int .i64 x.act, .int .i64 x.at_, .int .u64 x.had, .int .u64 x.put, .bool x.ok]) (by kernel_rfl) ?g ?b rfl (by omega) (by decide) ?dd hl1i.out.2 (by simp [Value.oneCell']) (by rw [hl1i.out.1]; exact tC) tD ?kinds ?fin
  case g =>
    intro i o ho
    have hi : i < 5 := by have := (Array.getElem?_eq_some_iff.1 ho).1; simpa using this
    match i, hi with
    | 0, _ | 1, _ | 2, _ | 3, _ | 4, _ => injection ho with ho; subst ho; rfl
  case b =>
    intro i o ho
    have hi : i < 5 := by have := (Array.getElem?_eq_some_iff.1 ho).1; simpa using this
    match i, hi with
    | 0, _ | 1, _ | 2, _ | 3, _ | 4, _ => injection ho with ho; subst ho; simp [Region.binds]
  case dd =>
    intro k hk
    have hk' : k < 125 := by
      simp [RetN.D] at hk
      omega
    simpa using hk'
  case kinds =>
    intro i o ho
    have hi : i < 5 := by have := (Array.getElem?_eq_some_iff.1 ho).1; simpa using this
    match i, hi with
    | 0, _ => injection ho with ho; subst ho; exact .inl ⟨31, _, rfl, rfl, fun L a w' hI hd => ex_load_row rfl (hI.fix 2 (Reg.notD rfl)) (rangeAt_block rA (hI.tch.block _ (by omega) (by omega))) HD.out.1 HD.out.2.1 (by rw [hl1i.out.1]; exact size79)⟩
    | 1, _ => injection ho with ho; subst ho; exact .inl ⟨32, _, rfl, rfl, fun L a w' hI hd => ex_load_row rfl (hI.fix 7 (Reg.notD rfl)) (rangeAt_block rB (hI.tch.block _ (by omega) (by omega))) HD.out.2.2.1 HD.out.2.2.2 size46⟩
    | 2, _ => injection ho with ho; subst ho; exact .inr (.inl ⟨rfl, rfl, _, _, _, rfl, (by rw [hl1i.out.1]; exact size79), fun L a w' hI hd => ⟨hI.fix 4 (Reg.notD rfl), (hI.pure 0 _ _ rfl (hd ⟨0, .data⟩ (by simp) rfl))⟩⟩)
    | 3, _ => injection ho with ho; subst ho; exact .inr (.inr ⟨rfl, rfl, _, _, _, rfl, size46, fun L a w' hI hd => ⟨hI.fix 5 (Reg.notD rfl), (hI.pure 1 _ _ rfl (hd ⟨1, .data⟩ (by simp) rfl))⟩⟩)
    | 4, _ => injection ho with ho; subst ho; exact .inl ⟨6, _, rfl, rfl, fun L a w' hI hd => ex_assign rfl rfl⟩
  case fin =>
    intro L a' w' hI hall
    rename_i K2 hK2
    refine hK2 _ _ ?_
    have rC := hI.sC (hall 2 (by decide))
    have rD := hI.sE (hall 3 (by decide))
    have pC : a'.eval (.tmp 4) = .pointer (some ⟨w.heap.size + 1, 0, none⟩) := hI.fix 4 (Reg.notD rfl)
    have pD : a'.eval (.tmp 5) = .pointer (some ⟨w.heap.size + 2, 0, none⟩) := hI.fix 5 (Reg.notD rfl)
    have pe : a'.eval (.tmp 6) = .bool true := hI.pure 4 6 _ rfl (hall 4 (by decide))
    have tch := hI.tch
    have hdf : a'.defers = [] := hI.df
    have hT := run_loadVar_mid (P := Try.prog) w' (w.heap.size + 1) 0 _ l1 dT rC HD.out.1 HD.out.2.1 (by rw [hl1i.out.1]; exact size79)
    have hS := run_loadVar_mid (P := Try.prog) w' (w.heap.size + 2) 0 _ _ dS rD HD.out.2.2.1 HD.out.2.2.2 size46
    have hres := results_cct (Q := Try.prog) (fn := Try.f36) (tmps := a'.tmps) (t := 4) (t' := 5) (t'' := 6) (W := w') (by rfl) pC hT pD hS
    rw [show a'.tmps.getD 6 undef = .bool true from pe] at hres
    go_wp2
    refine bodyPost_ret (v := .tuple #[.agg l1.toArray, x.val, .bool true]) hres hdf ⟨rfl, HRW.out.block (tch.block g HRW.out.lt (by omega)), ?_⟩
    have := HTW.out.trans' tch (fun k hk h => absurd hk (by omega))
    exact ⟨this.os, this.tape, this.output, this.size, fun k hk hn => this.block k hk (by simpa using hn)⟩

set_option maxHeartbeats 4000000 in
theorem rsum_goes {w : World} {g n cap : Nat} {f f' : Nat → Int} {x : Stp} {s0 s1 s2 s3 s4 s5 hand a b c hh r val st : Int} {ok : Bool} (hr : IsRow w g n cap f) (hlt : wrap64 (st + 1) < s5) (hx : stepOf n f ⟨hand, 1, st, 0, 0, true⟩ = x) (hf' : wordsOf n f ⟨hand, 1, st, 0, 0, true⟩ = f') :
    Calls Try.prog 36 #[.agg (tk ⟨s0, s1, s2, s3, s4, s5⟩ hand ⟨2, a, b, c, hh⟩ st ⟨r, 0, 0, 0, 0, 0, 0, 0⟩ ⟨ok, val⟩).toArray, .slice (some ⟨g, 0, none⟩) n cap] w fun e w' =>
      e = .returned (.tuple #[.agg (tk ⟨s0, s1, s2, s3, s4, s5⟩ hand ⟨2, a, b, c, hh⟩ (wrap64 (st + 1)) ⟨((r + x.had) % 18446744073709551616), 0, 0, 0, 0, 0, 0, 0⟩ ⟨ok, val⟩).toArray, x.val, .bool false]) ∧ IsRow w' g n cap f' ∧ w.grownBy w' (some g) := by
  have DO := hide (fun (w' : World) (hr' : IsRow w' g n cap f) => ref_do (s := ⟨hand, 1, st, 0, 0, true⟩) hr' ⟨Int.le_refl 0, by show (0 : Int) ≤ 18446744073709551615; decide⟩ ⟨by show (1 : Int) ≤ 1; decide, by show (1 : Int) ≤ 5; decide⟩)
  have HX := hide hx
  have HF := hide hf'
  have lg := hr.lt
  obtain ⟨sm1, hsm1⟩ : ∃ y, (r + x.had) % 18446744073709551616 = y := ⟨_, rfl⟩
  obtain ⟨st1, hst1⟩ : ∃ y, wrap64 (st + 1) = y := ⟨_, rfl⟩
  simp only [hsm1, hst1]
  rw [hst1] at hlt
  obtain ⟨l0, hl0⟩ : ∃ l, tk ⟨s0, s1, s2, s3, s4, s5⟩ hand ⟨2, a, b, c, hh⟩ st ⟨r, 0, 0, 0, 0, 0, 0, 0⟩ ⟨ok, val⟩ = l := ⟨_, rfl⟩
  have hl0' : l0.length = 28 := by rw [← hl0]; rfl
  have hset : ((l0.set 13 (.int .u64 (sm1))).set 12 (.int .i64 (st1))) = tk ⟨s0, s1, s2, s3, s4, s5⟩ hand ⟨2, a, b, c, hh⟩ (st1) ⟨(sm1), 0, 0, 0, 0, 0, 0, 0⟩ ⟨ok, val⟩ := by rw [← hl0]; rfl
  obtain ⟨l1, hl1⟩ : ∃ l, tk ⟨s0, s1, s2, s3, s4, s5⟩ hand ⟨2, a, b, c, hh⟩ (st1) ⟨(sm1), 0, 0, 0, 0, 0, 0, 0⟩ ⟨ok, val⟩ = l := ⟨_, rfl⟩
  rw [hl0, hl1]
  rw [hl1] at hset
  have hl1i := hide (show IsTk l1 from by rw [← hl1]; exact tk_is _ _ _ _ _ _)
  obtain ⟨W3, hW3⟩ : ∃ W3, ((w.alloc (.cells l0.toArray 62)).alloc (.cells tk0.toArray 62)).alloc (.cells [Value.int .i64 0, .int .i64 0, .int .i64 0, .int .u64 0, .int .u64 0, .bool false].toArray 73) = W3 := ⟨_, rfl⟩
  have sz3 : W3.heap.size = w.heap.size + 3 := by rw [← hW3]; simp
  have R0 : W3.rowIs w.heap.size 62 28 (lrow l0) := by rw [← hW3]; exact ((rowL_alloc w l0 _ hl0').alloc _).alloc _
  have R1 : W3.rowIs (w.heap.size + 1) 62 28 (lrow tk0) := by
    rw [← hW3]
    have := (rowL_alloc (w.alloc (.cells l0.toArray 62)) tk0 62 (n := 28) rfl).alloc (.cells [Value.int .i64 0, .int .i64 0, .int .i64 0, .int .u64 0, .int .u64 0, .bool false].toArray 73)
    rwa [World.size_alloc] at this
  have R2 : W3.rowIs (w.heap.size + 2) 73 6 (lrow [Value.int .i64 0, .int .i64 0, .int .i64 0, .int .u64 0, .int .u64 0, .bool false]) := by
    rw [← hW3]
    have := rowL_alloc ((w.alloc (.cells l0.toArray 62)).alloc (.cells tk0.toArray 62)) [Value.int .i64 0, .int .i64 0, .int .i64 0, .int .u64 0, .int .u64 0, .bool false] 73 (n := 6) rfl
    rwa [World.size_alloc, World.size_alloc] at this
  have G3 : w.grownBy W3 (some g) := by rw [← hW3]; exact grown_alloc (grown_alloc (grown_alloc (grown_refl _ _) _) _) _
  have HR3 := hide (show IsRow W3 g n cap f from hr.grown (grown_none (by rw [← hW3]; exact grown_alloc (grown_alloc (grown_alloc (grown_refl _ _) _) _) _) none) (by simp))
  have cell : ∀ i v, l0[i]? = some v → W3.cell? ⟨w.heap.size, i, none⟩ = some v := fun i v hv => by rw [R0.cell (i := i) (by have := (List.getElem?_eq_some_iff.1 hv).1; omega), lrow_of hv]
  have g5 : l0[5]? = some (.int .i64 s5) := by rw [← hl0]; rfl
  have g6 : l0[6]? = some (.int .i64 hand) := by rw [← hl0]; rfl
  have g7 : l0[7]? = some (.int .i64 2) := by rw [← hl0]; rfl
  have g8 : l0[8]? = some (.int .i64 a) := by rw [← hl0]; rfl
  have g11 : l0[11]? = some (.int .u64 hh) := by rw [← hl0]; rfl
  have g12 : l0[12]? = some (.int .i64 st) := by rw [← hl0]; rfl
  have g13 : l0[13]? = some (.int .u64 r) := by rw [← hl0]; rfl
  have g22 : l0[22]? = some (.bool ok) := by rw [← hl0]; rfl
  have g23 : l0[23]? = some (.int .u64 val) := by rw [← hl0]; rfl
  have c5 := cell 5 _ g5
  have c6 := cell 6 _ g6
  have c7 := cell 7 _ g7
  have c8 := cell 8 _ g8
  have c11 := cell 11 _ g11
  have c12 := cell 12 _ g12
  have c13 := cell 13 _ g13
  have c22 := cell 22 _ g22
  have c23 := cell 23 _ g23
  have G5 := hide g5
  have G6 := hide g6
  have G7 := hide g7
  have G8 := hide g8
  have G11 := hide g11
  have G12 := hide g12
  have G13 := hide g13
  have G22 := hide g22
  have G23 := hide g23
  obtain ⟨dT, hdT1, hdT2⟩ := row79
  obtain ⟨dS, hdS1, hdS2⟩ := row46
  have HD := hide (And.intro hdT1 (And.intro hdT2 (And.intro hdS1 hdS2)))
  have HR0 := hide R0
  have HR1 := hide R1
  have HR2 := hide R2
  have HG3 := hide G3
  have HSET := hide hset
  have HL0 := hide hl0'
  have a3 : IntKind.u64.wrap (r + x.had) = sm1 := by rw [← hsm1]; exact wrap_u64 _
  clear hx hf' hr R0 R1 R2 G3 cell hset hl0' hl0 hl1 hdT1 hdT2 hdS1 hdS2 g5 g6 g7 g8 g11 g12 g13 g22 g23
  simp only [tk0] at hW3
  go_enter Try.func36, Try.ntmps36
  go_wp2_with (go_at_call 47; refine (DO.out _ HR3.out).mono ?_; rintro e w1 ⟨rfl, hr1, hg1⟩; rw [HX.out]; rw [HF.out] at hr1; simp only [Stp.val]; have sz1 := hg1.size; have HR4 := hide (HR0.out.of_block (hg1.block w.heap.size (by omega) (by simp; omega))); have HR5 := hide (HR1.out.of_block (hg1.block (w.heap.size + 1) (by omega) (by simp; omega))); have HR6 := hide (HR2.out.of_block (hg1.block (w.heap.size + 2) (by omega) (by simp; omega))); have HR1' := hide hr1; have HG1 := hide hg1; have e5 : w1.cell? ⟨w.heap.size, 5, none⟩ = some (.int .i64 s5) := (by rw [HR4.out.cell (i := 5) (by omega), lrow_of G5.out]); have f5 := HR4.out.frozen 5; have e6 : w1.cell? ⟨w.heap.size, 6, none⟩ = some (.int .i64 hand) := (by rw [HR4.out.cell (i := 6) (by omega), lrow_of G6.out]); have f6 := HR4.out.frozen 6; have e7 : w1.cell? ⟨w.heap.size, 7, none⟩ = some (.int .i64 2) := (by rw [HR4.out.cell (i := 7) (by omega), lrow_of G7.out]); have f7 := HR4.out.frozen 7; have e8 : w1.cell? ⟨w.heap.size, 8, none⟩ = some (.int .i64 a) := (by rw [HR4.out.cell (i := 8) (by omega), lrow_of G8.out]); have f8 := HR4.out.frozen 8; have e11 : w1.cell? ⟨w.heap.size, 11, none⟩ = some (.int .u64 hh) := (by rw [HR4.out.cell (i := 11) (by omega), lrow_of G11.out]); have f11 := HR4.out.frozen 11; have e12 : w1.cell? ⟨w.heap.size, 12, none⟩ = some (.int .i64 st) := (by rw [HR4.out.cell (i := 12) (by omega), lrow_of G12.out]); have f12 := HR4.out.frozen 12; have e13 : w1.cell? ⟨w.heap.size, 13, none⟩ = some (.int .u64 r) := (by rw [HR4.out.cell (i := 13) (by omega), lrow_of G13.out]); have f13 := HR4.out.frozen 13; have e22 : w1.cell? ⟨w.heap.size, 22, none⟩ = some (.bool ok) := (by rw [HR4.out.cell (i := 22) (by omega), lrow_of G22.out]); have f22 := HR4.out.frozen 22; have e23 : w1.cell? ⟨w.heap.size, 23, none⟩ = some (.int .u64 val) := (by rw [HR4.out.cell (i := 23) (by omega), lrow_of G23.out]); have f23 := HR4.out.frozen 23; have l1w : w.heap.size < w1.heap.size := (by omega); clear hr1 hg1 c5 c6 c7 c8 c11 c12 c13 c22 c23)
  obtain ⟨w2, hw2⟩ : ∃ w2, ((w1.setCell ⟨w.heap.size, 13, none⟩ (.int .u64 (sm1))).setCell ⟨w.heap.size, 12, none⟩ (.int .i64 (st1))) = w2 := ⟨_, rfl⟩
  have sz2 : w2.heap.size = w1.heap.size := by rw [← hw2]; simp
  have tt2 : Touch w1 w2 (fun k => k = w.heap.size) := by rw [← hw2]; exact (Touch.setCell (S := fun k => k = w.heap.size) (Touch.setCell (S := fun k => k = w.heap.size) (Touch.refl w1 _) ⟨w.heap.size, 13, none⟩ (.inl rfl) _) ⟨w.heap.size, 12, none⟩ (.inl rfl) _)
  have rA : (w2.alloc (.cells [Value.int .i64 x.hand, .int .i64 x.act, .int .i64 x.at_, .int .u64 x.had, .int .u64 x.put, .bool x.ok].toArray 73)).rangeAt w.heap.size 0 l1 := by
    have := rowIs.range (rowIs.setL (rowIs.setL HR4.out (i := 13) (by simp [HL0.out]) (.int .u64 (sm1))) (i := 12) (by simp [HL0.out]) (.int .i64 (st1))) (by simp [HL0.out])
    rw [HSET.out, hw2] at this
    exact World.rangeAt_alloc this _
  have rB : (w2.alloc (.cells [Value.int .i64 x.hand, .int .i64 x.act, .int .i64 x.at_, .int .u64 x.had, .int .u64 x.put, .bool x.ok].toArray 73)).rangeAt w1.heap.size 0 [Value.int .i64 x.hand, .int .i64 x.act, .int .i64 x.at_, .int .u64 x.had, .int .u64 x.put, .bool x.ok] := by
    have := rowIs.range (rowL_alloc w2 [Value.int .i64 x.hand, .int .i64 x.act, .int .i64 x.at_, .int .u64 x.had, .int .u64 x.put, .bool x.ok] 73 (n := 6) rfl) rfl
    rwa [sz2] at this
  have tC : (w2.alloc (.cells [Value.int .i64 x.hand, .int .i64 x.act, .int .i64 x.at_, .int .u64 x.had, .int .u64 x.put, .bool x.ok].toArray 73)).there (w.heap.size + 1) 0 28 := rowIs.there ((HR5.out.of_block (tt2.block _ (by omega) (by omega))).alloc _) (by omega)
  have tD : (w2.alloc (.cells [Value.int .i64 x.hand, .int .i64 x.act, .int .i64 x.at_, .int .u64 x.had, .int .u64 x.put, .bool x.ok].toArray 73)).there (w.heap.size + 2) 0 6 := rowIs.there ((HR6.out.of_block (tt2.block _ (by omega) (by omega))).alloc _) (by omega)
  have rW : IsRow (w2.alloc (.cells [Value.int .i64 x.hand, .int .i64 x.act, .int .i64 x.at_, .int .u64 x.had, .int .u64 x.put, .bool x.ok].toArray 73)) g n cap f' := (HR1'.out.block (tt2.block g (by omega) (by omega))).alloc _
  have TW : Touch w (w2.alloc (.cells [Value.int .i64 x.hand, .int .i64 x.act, .int .i64 x.at_, .int .u64 x.had, .int .u64 x.put, .bool x.ok].toArray 73)) (fun k => k = g) := (((Touch.of_grown HG3.out).mono (S' := fun k => k = g) (fun k _ h => by simpa using h)).trans' (Touch.of_grown HG1.out) (fun k _ h => by simpa using h)).trans' (tt2.alloc _) (fun k hk h => absurd hk (by omega))
  have szA : (w2.alloc (.cells [Value.int .i64 x.hand, .int .i64 x.act, .int .i64 x.at_, .int .u64 x.had, .int .u64 x.put, .bool x.ok].toArray 73)).heap.size = w1.heap.size + 1 := by simp [sz2]
  rw [hw2]
  have HTW := hide TW
  have HRW := hide rW
  clear TW rW hw2
  obtain ⟨WA, hWA⟩ : ∃ W, (w2.alloc (.cells [Value.int .i64 x.hand, .int .i64 x.act, .int .i64 x.at_, .int .u64 x.had, .int .u64 x.put, .bool x.ok].toArray 73)) = W := ⟨_, rfl⟩
  rw [hWA] at rA rB tC tD szA HTW HRW
  have goA : (w2.alloc (.cells #[Value.int .i64 x.hand, .int .i64 x.act, .int .i64 x.at_, .int .u64 x.had, .int .u64 x.put, .bool x.ok] 73)) = WA := hWA
  simp only [goA]
  clear goA hWA
  refine RetN.region (ks := [(0, 59), (1, 60), (4, 6)]) (vals := fun i => match i with
      | 0 => .agg l1.toArray
      | 1 => .agg #[Value.int .i64 x.hand, .int .i64 x.act, .int .i64 x.at_, .int .u64 x.had, .int .u64 x.put, .bool x.ok]
      | _ => .bool false) (C := w.heap.size + 1) (E := w.heap.size + 2) (iC := 2) (iE := 3) (lt := l1) (ls := [Value.int .i64 x.hand, .int .i64 x.act, .int .i64 x.at_, .int .u64 x.had, .int .u64 x.put, .bool x.ok]) (by kernel_rfl) ?g ?b rfl (by omega) (by decide) ?dd hl1i.out.2 (by simp [Value.oneCell']) (by rw [hl1i.out.1]; exact tC) tD ?kinds ?fin
  case g =>
    intro i o ho
    have hi : i < 5 := by have := (Array.getElem?_eq_some_iff.1 ho).1; simpa using this
    match i, hi with
    | 0, _ | 1, _ | 2, _ | 3, _ | 4, _ => injection ho with ho; subst ho; rfl
  case b =>
    intro i o ho
    have hi : i < 5 := by have := (Array.getElem?_eq_some_iff.1 ho).1; simpa using this
    match i, hi with
    | 0, _ | 1, _ | 2, _ | 3, _ | 4, _ => injection ho with ho; subst ho; simp [Region.binds]
  case dd =>
    intro k hk
    have hk' : k < 125 := by
      simp [RetN.D] at hk
      omega
    simpa using hk'
  case kinds =>
    intro i o ho
    have hi : i < 5 := by have := (Array.getElem?_eq_some_iff.1 ho).1; simpa using this
    match i, hi with
    | 0, _ => injection ho with ho; subst ho; exact .inl ⟨59, _, rfl, rfl, fun L a w' hI hd => ex_load_row rfl (hI.fix 2 (Reg.notD rfl)) (rangeAt_block rA (hI.tch.block _ (by omega) (by omega))) HD.out.1 HD.out.2.1 (by rw [hl1i.out.1]; exact size79)⟩
    | 1, _ => injection ho with ho; subst ho; exact .inl ⟨60, _, rfl, rfl, fun L a w' hI hd => ex_load_row rfl (hI.fix 8 (Reg.notD rfl)) (rangeAt_block rB (hI.tch.block _ (by omega) (by omega))) HD.out.2.2.1 HD.out.2.2.2 size46⟩
    | 2, _ => injection ho with ho; subst ho; exact .inr (.inl ⟨rfl, rfl, _, _, _, rfl, (by rw [hl1i.out.1]; exact size79), fun L a w' hI hd => ⟨hI.fix 4 (Reg.notD rfl), (hI.pure 0 _ _ rfl (hd ⟨0, .data⟩ (by simp) rfl))⟩⟩)
    | 3, _ => injection ho with ho; subst ho; exact .inr (.inr ⟨rfl, rfl, _, _, _, rfl, size46, fun L a w' hI hd => ⟨hI.fix 5 (Reg.notD rfl), (hI.pure 1 _ _ rfl (hd ⟨1, .data⟩ (by simp) rfl))⟩⟩)
    | 4, _ => injection ho with ho; subst ho; exact .inl ⟨6, _, rfl, rfl, fun L a w' hI hd => ex_assign rfl rfl⟩
  case fin =>
    intro L a' w' hI hall
    rename_i K2 hK2
    refine hK2 _ _ ?_
    have rC := hI.sC (hall 2 (by decide))
    have rD := hI.sE (hall 3 (by decide))
    have pC : a'.eval (.tmp 4) = .pointer (some ⟨w.heap.size + 1, 0, none⟩) := hI.fix 4 (Reg.notD rfl)
    have pD : a'.eval (.tmp 5) = .pointer (some ⟨w.heap.size + 2, 0, none⟩) := hI.fix 5 (Reg.notD rfl)
    have pe : a'.eval (.tmp 6) = .bool false := hI.pure 4 6 _ rfl (hall 4 (by decide))
    have tch := hI.tch
    have hdf : a'.defers = [] := hI.df
    have hT := run_loadVar_mid (P := Try.prog) w' (w.heap.size + 1) 0 _ l1 dT rC HD.out.1 HD.out.2.1 (by rw [hl1i.out.1]; exact size79)
    have hS := run_loadVar_mid (P := Try.prog) w' (w.heap.size + 2) 0 _ _ dS rD HD.out.2.2.1 HD.out.2.2.2 size46
    have hres := results_cct (Q := Try.prog) (fn := Try.f36) (tmps := a'.tmps) (t := 4) (t' := 5) (t'' := 6) (W := w') (by rfl) pC hT pD hS
    rw [show a'.tmps.getD 6 undef = .bool false from pe] at hres
    go_wp2
    refine bodyPost_ret (v := .tuple #[.agg l1.toArray, x.val, .bool false]) hres hdf ⟨rfl, HRW.out.block (tch.block g HRW.out.lt (by omega)), ?_⟩
    have := HTW.out.trans' tch (fun k hk h => absurd hk (by omega))
    exact ⟨this.os, this.tape, this.output, this.size, fun k hk hn => this.block k hk (by simpa using hn)⟩

set_option maxHeartbeats 4000000 in
theorem rsum_ends {w : World} {g n cap : Nat} {f f' : Nat → Int} {x : Stp} {s0 s1 s2 s3 s4 s5 hand a b c hh r val st : Int} {ok : Bool} (hr : IsRow w g n cap f) (hlt : ¬ wrap64 (st + 1) < s5) (hx : stepOf n f ⟨hand, 1, st, 0, 0, true⟩ = x) (hf' : wordsOf n f ⟨hand, 1, st, 0, 0, true⟩ = f') :
    Calls Try.prog 36 #[.agg (tk ⟨s0, s1, s2, s3, s4, s5⟩ hand ⟨2, a, b, c, hh⟩ st ⟨r, 0, 0, 0, 0, 0, 0, 0⟩ ⟨ok, val⟩).toArray, .slice (some ⟨g, 0, none⟩) n cap] w fun e w' =>
      e = .returned (.tuple #[.agg (tk ⟨s0, s1, s2, s3, s4, s5⟩ hand ⟨2, a, b, c, hh⟩ (wrap64 (st + 1)) ⟨((r + x.had) % 18446744073709551616), 0, 0, 0, 0, 0, 0, 0⟩ ⟨true, ((r + x.had) % 18446744073709551616)⟩).toArray, x.val, .bool true]) ∧ IsRow w' g n cap f' ∧ w.grownBy w' (some g) := by
  have DO := hide (fun (w' : World) (hr' : IsRow w' g n cap f) => ref_do (s := ⟨hand, 1, st, 0, 0, true⟩) hr' ⟨Int.le_refl 0, by show (0 : Int) ≤ 18446744073709551615; decide⟩ ⟨by show (1 : Int) ≤ 1; decide, by show (1 : Int) ≤ 5; decide⟩)
  have HX := hide hx
  have HF := hide hf'
  have lg := hr.lt
  obtain ⟨sm1, hsm1⟩ : ∃ y, (r + x.had) % 18446744073709551616 = y := ⟨_, rfl⟩
  obtain ⟨st1, hst1⟩ : ∃ y, wrap64 (st + 1) = y := ⟨_, rfl⟩
  simp only [hsm1, hst1]
  rw [hst1] at hlt
  obtain ⟨l0, hl0⟩ : ∃ l, tk ⟨s0, s1, s2, s3, s4, s5⟩ hand ⟨2, a, b, c, hh⟩ st ⟨r, 0, 0, 0, 0, 0, 0, 0⟩ ⟨ok, val⟩ = l := ⟨_, rfl⟩
  have hl0' : l0.length = 28 := by rw [← hl0]; rfl
  have hset : ((((l0.set 13 (.int .u64 (sm1))).set 12 (.int .i64 (st1))).set 22 (.bool true)).set 23 (.int .u64 (sm1))) = tk ⟨s0, s1, s2, s3, s4, s5⟩ hand ⟨2, a, b, c, hh⟩ (st1) ⟨(sm1), 0, 0, 0, 0, 0, 0, 0⟩ ⟨true, (sm1)⟩ := by rw [← hl0]; rfl
  obtain ⟨l1, hl1⟩ : ∃ l, tk ⟨s0, s1, s2, s3, s4, s5⟩ hand ⟨2, a, b, c, hh⟩ (st1) ⟨(sm1), 0, 0, 0, 0, 0, 0, 0⟩ ⟨true, (sm1)⟩ = l := ⟨_, rfl⟩
  rw [hl0, hl1]
  rw [hl1] at hset
  have hl1i := hide (show IsTk l1 from by rw [← hl1]; exact tk_is _ _ _ _ _ _)
  obtain ⟨W3, hW3⟩ : ∃ W3, ((w.alloc (.cells l0.toArray 62)).alloc (.cells tk0.toArray 62)).alloc (.cells [Value.int .i64 0, .int .i64 0, .int .i64 0, .int .u64 0, .int .u64 0, .bool false].toArray 73) = W3 := ⟨_, rfl⟩
  have sz3 : W3.heap.size = w.heap.size + 3 := by rw [← hW3]; simp
  have R0 : W3.rowIs w.heap.size 62 28 (lrow l0) := by rw [← hW3]; exact ((rowL_alloc w l0 _ hl0').alloc _).alloc _
  have R1 : W3.rowIs (w.heap.size + 1) 62 28 (lrow tk0) := by
    rw [← hW3]
    have := (rowL_alloc (w.alloc (.cells l0.toArray 62)) tk0 62 (n := 28) rfl).alloc (.cells [Value.int .i64 0, .int .i64 0, .int .i64 0, .int .u64 0, .int .u64 0, .bool false].toArray 73)
    rwa [World.size_alloc] at this
  have R2 : W3.rowIs (w.heap.size + 2) 73 6 (lrow [Value.int .i64 0, .int .i64 0, .int .i64 0, .int .u64 0, .int .u64 0, .bool false]) := by
    rw [← hW3]
    have := rowL_alloc ((w.alloc (.cells l0.toArray 62)).alloc (.cells tk0.toArray 62)) [Value.int .i64 0, .int .i64 0, .int .i64 0, .int .u64 0, .int .u64 0, .bool false] 73 (n := 6) rfl
    rwa [World.size_alloc, World.size_alloc] at this
  have G3 : w.grownBy W3 (some g) := by rw [← hW3]; exact grown_alloc (grown_alloc (grown_alloc (grown_refl _ _) _) _) _
  have HR3 := hide (show IsRow W3 g n cap f from hr.grown (grown_none (by rw [← hW3]; exact grown_alloc (grown_alloc (grown_alloc (grown_refl _ _) _) _) _) none) (by simp))
  have cell : ∀ i v, l0[i]? = some v → W3.cell? ⟨w.heap.size, i, none⟩ = some v := fun i v hv => by rw [R0.cell (i := i) (by have := (List.getElem?_eq_some_iff.1 hv).1; omega), lrow_of hv]
  have g5 : l0[5]? = some (.int .i64 s5) := by rw [← hl0]; rfl
  have g6 : l0[6]? = some (.int .i64 hand) := by rw [← hl0]; rfl
  have g7 : l0[7]? = some (.int .i64 2) := by rw [← hl0]; rfl
  have g8 : l0[8]? = some (.int .i64 a) := by rw [← hl0]; rfl
  have g11 : l0[11]? = some (.int .u64 hh) := by rw [← hl0]; rfl
  have g12 : l0[12]? = some (.int .i64 st) := by rw [← hl0]; rfl
  have g13 : l0[13]? = some (.int .u64 r) := by rw [← hl0]; rfl
  have g22 : l0[22]? = some (.bool ok) := by rw [← hl0]; rfl
  have g23 : l0[23]? = some (.int .u64 val) := by rw [← hl0]; rfl
  have c5 := cell 5 _ g5
  have c6 := cell 6 _ g6
  have c7 := cell 7 _ g7
  have c8 := cell 8 _ g8
  have c11 := cell 11 _ g11
  have c12 := cell 12 _ g12
  have c13 := cell 13 _ g13
  have c22 := cell 22 _ g22
  have c23 := cell 23 _ g23
  have G5 := hide g5
  have G6 := hide g6
  have G7 := hide g7
  have G8 := hide g8
  have G11 := hide g11
  have G12 := hide g12
  have G13 := hide g13
  have G22 := hide g22
  have G23 := hide g23
  obtain ⟨dT, hdT1, hdT2⟩ := row79
  obtain ⟨dS, hdS1, hdS2⟩ := row46
  have HD := hide (And.intro hdT1 (And.intro hdT2 (And.intro hdS1 hdS2)))
  have HR0 := hide R0
  have HR1 := hide R1
  have HR2 := hide R2
  have HG3 := hide G3
  have HSET := hide hset
  have HL0 := hide hl0'
  have a3 : IntKind.u64.wrap (r + x.had) = sm1 := by rw [← hsm1]; exact wrap_u64 _
  clear hx hf' hr R0 R1 R2 G3 cell hset hl0' hl0 hl1 hdT1 hdT2 hdS1 hdS2 g5 g6 g7 g8 g11 g12 g13 g22 g23
  simp only [tk0] at hW3
  go_enter Try.func36, Try.ntmps36
  go_wp2_with (go_at_call 47; refine (DO.out _ HR3.out).mono ?_; rintro e w1 ⟨rfl, hr1, hg1⟩; rw [HX.out]; rw [HF.out] at hr1; simp only [Stp.val]; have sz1 := hg1.size; have HR4 := hide (HR0.out.of_block (hg1.block w.heap.size (by omega) (by simp; omega))); have HR5 := hide (HR1.out.of_block (hg1.block (w.heap.size + 1) (by omega) (by simp; omega))); have HR6 := hide (HR2.out.of_block (hg1.block (w.heap.size + 2) (by omega) (by simp; omega))); have HR1' := hide hr1; have HG1 := hide hg1; have e5 : w1.cell? ⟨w.heap.size, 5, none⟩ = some (.int .i64 s5) := (by rw [HR4.out.cell (i := 5) (by omega), lrow_of G5.out]); have f5 := HR4.out.frozen 5; have e6 : w1.cell? ⟨w.heap.size, 6, none⟩ = some (.int .i64 hand) := (by rw [HR4.out.cell (i := 6) (by omega), lrow_of G6.out]); have f6 := HR4.out.frozen 6; have e7 : w1.cell? ⟨w.heap.size, 7, none⟩ = some (.int .i64 2) := (by rw [HR4.out.cell (i := 7) (by omega), lrow_of G7.out]); have f7 := HR4.out.frozen 7; have e8 : w1.cell? ⟨w.heap.size, 8, none⟩ = some (.int .i64 a) := (by rw [HR4.out.cell (i := 8) (by omega), lrow_of G8.out]); have f8 := HR4.out.frozen 8; have e11 : w1.cell? ⟨w.heap.size, 11, none⟩ = some (.int .u64 hh) := (by rw [HR4.out.cell (i := 11) (by omega), lrow_of G11.out]); have f11 := HR4.out.frozen 11; have e12 : w1.cell? ⟨w.heap.size, 12, none⟩ = some (.int .i64 st) := (by rw [HR4.out.cell (i := 12) (by omega), lrow_of G12.out]); have f12 := HR4.out.frozen 12; have e13 : w1.cell? ⟨w.heap.size, 13, none⟩ = some (.int .u64 r) := (by rw [HR4.out.cell (i := 13) (by omega), lrow_of G13.out]); have f13 := HR4.out.frozen 13; have e22 : w1.cell? ⟨w.heap.size, 22, none⟩ = some (.bool ok) := (by rw [HR4.out.cell (i := 22) (by omega), lrow_of G22.out]); have f22 := HR4.out.frozen 22; have e23 : w1.cell? ⟨w.heap.size, 23, none⟩ = some (.int .u64 val) := (by rw [HR4.out.cell (i := 23) (by omega), lrow_of G23.out]); have f23 := HR4.out.frozen 23; have l1w : w.heap.size < w1.heap.size := (by omega); clear hr1 hg1 c5 c6 c7 c8 c11 c12 c13 c22 c23)
  obtain ⟨w2, hw2⟩ : ∃ w2, ((((w1.setCell ⟨w.heap.size, 13, none⟩ (.int .u64 (sm1))).setCell ⟨w.heap.size, 12, none⟩ (.int .i64 (st1))).setCell ⟨w.heap.size, 22, none⟩ (.bool true)).setCell ⟨w.heap.size, 23, none⟩ (.int .u64 (sm1))) = w2 := ⟨_, rfl⟩
  have sz2 : w2.heap.size = w1.heap.size := by rw [← hw2]; simp
  have tt2 : Touch w1 w2 (fun k => k = w.heap.size) := by rw [← hw2]; exact (Touch.setCell (S := fun k => k = w.heap.size) (Touch.setCell (S := fun k => k = w.heap.size) (Touch.setCell (S := fun k => k = w.heap.size) (Touch.setCell (S := fun k => k = w.heap.size) (Touch.refl w1 _) ⟨w.heap.size, 13, none⟩ (.inl rfl) _) ⟨w.heap.size, 12, none⟩ (.inl rfl) _) ⟨w.heap.size, 22, none⟩ (.inl rfl) _) ⟨w.heap.size, 23, none⟩ (.inl rfl) _)
  have rA : (w2.alloc (.cells [Value.int .i64 x.hand, .int .i64 x.act, .int .i64 x.at_, .int .u64 x.had, .int .u64 x.put, .bool x.ok].toArray 73)).rangeAt w.heap.size 0 l1 := by
    have := rowIs.range (rowIs.setL (rowIs.setL (rowIs.setL (rowIs.setL HR4.out (i := 13) (by simp [HL0.out]) (.int .u64 (sm1))) (i := 12) (by simp [HL0.out]) (.int .i64 (st1))) (i := 22) (by simp [HL0.out]) (.bool true)) (i := 23) (by simp [HL0.out]) (.int .u64 (sm1))) (by simp [HL0.out])
    rw [HSET.out, hw2] at this
    exact World.rangeAt_alloc this _
  have rB : (w2.alloc (.cells [Value.int .i64 x.hand, .int .i64 x.act, .int .i64 x.at_, .int .u64 x.had, .int .u64 x.put, .bool x.ok].toArray 73)).rangeAt w1.heap.size 0 [Value.int .i64 x.hand, .int .i64 x.act, .int .i64 x.at_, .int .u64 x.had, .int .u64 x.put, .bool x.ok] := by
    have := rowIs.range (rowL_alloc w2 [Value.int .i64 x.hand, .int .i64 x.act, .int .i64 x.at_, .int .u64 x.had, .int .u64 x.put, .bool x.ok] 73 (n := 6) rfl) rfl
    rwa [sz2] at this
  have tC : (w2.alloc (.cells [Value.int .i64 x.hand, .int .i64 x.act, .int .i64 x.at_, .int .u64 x.had, .int .u64 x.put, .bool x.ok].toArray 73)).there (w.heap.size + 1) 0 28 := rowIs.there ((HR5.out.of_block (tt2.block _ (by omega) (by omega))).alloc _) (by omega)
  have tD : (w2.alloc (.cells [Value.int .i64 x.hand, .int .i64 x.act, .int .i64 x.at_, .int .u64 x.had, .int .u64 x.put, .bool x.ok].toArray 73)).there (w.heap.size + 2) 0 6 := rowIs.there ((HR6.out.of_block (tt2.block _ (by omega) (by omega))).alloc _) (by omega)
  have rW : IsRow (w2.alloc (.cells [Value.int .i64 x.hand, .int .i64 x.act, .int .i64 x.at_, .int .u64 x.had, .int .u64 x.put, .bool x.ok].toArray 73)) g n cap f' := (HR1'.out.block (tt2.block g (by omega) (by omega))).alloc _
  have TW : Touch w (w2.alloc (.cells [Value.int .i64 x.hand, .int .i64 x.act, .int .i64 x.at_, .int .u64 x.had, .int .u64 x.put, .bool x.ok].toArray 73)) (fun k => k = g) := (((Touch.of_grown HG3.out).mono (S' := fun k => k = g) (fun k _ h => by simpa using h)).trans' (Touch.of_grown HG1.out) (fun k _ h => by simpa using h)).trans' (tt2.alloc _) (fun k hk h => absurd hk (by omega))
  have szA : (w2.alloc (.cells [Value.int .i64 x.hand, .int .i64 x.act, .int .i64 x.at_, .int .u64 x.had, .int .u64 x.put, .bool x.ok].toArray 73)).heap.size = w1.heap.size + 1 := by simp [sz2]
  rw [hw2]
  have HTW := hide TW
  have HRW := hide rW
  clear TW rW hw2
  obtain ⟨WA, hWA⟩ : ∃ W, (w2.alloc (.cells [Value.int .i64 x.hand, .int .i64 x.act, .int .i64 x.at_, .int .u64 x.had, .int .u64 x.put, .bool x.ok].toArray 73)) = W := ⟨_, rfl⟩
  rw [hWA] at rA rB tC tD szA HTW HRW
  have goA : (w2.alloc (.cells #[Value.int .i64 x.hand, .int .i64 x.act, .int .i64 x.at_, .int .u64 x.had, .int .u64 x.put, .bool x.ok] 73)) = WA := hWA
  simp only [goA]
  clear goA hWA
  refine RetN.region (ks := [(0, 66), (1, 67), (4, 6)]) (vals := fun i => match i with
      | 0 => .agg l1.toArray
      | 1 => .agg #[Value.int .i64 x.hand, .int .i64 x.act, .int .i64 x.at_, .int .u64 x.had, .int .u64 x.put, .bool x.ok]
      | _ => .bool true) (C := w.heap.size + 1) (E := w.heap.size + 2) (iC := 2) (iE := 3) (lt := l1) (ls := [Value.int .i64 x.hand, .int .i64 x.act, .int .i64 x.at_, .int .u64 x.had, .int .u64 x.put, .bool x.ok]) (by kernel_rfl) ?g ?b rfl (by omega) (by decide) ?dd hl1i.out.2 (by simp [Value.oneCell']) (by rw [hl1i.out.1]; exact tC) tD ?kinds ?fin
  case g =>
    intro i o ho
    have hi : i < 5 := by have := (Array.getElem?_eq_some_iff.1 ho).1; simpa using this
    match i, hi with
    | 0, _ | 1, _ | 2, _ | 3, _ | 4, _ => injection ho with ho; subst ho; rfl
  case b =>
    intro i o ho
    have hi : i < 5 := by have := (Array.getElem?_eq_some_iff.1 ho).1; simpa using this
    match i, hi with
    | 0, _ | 1, _ | 2, _ | 3, _ | 4, _ => injection ho with ho; subst ho; simp [Region.binds]
  case dd =>
    intro k hk
    have hk' : k < 125 := by
      simp [RetN.D] at hk
      omega
    simpa using hk'
  case kinds =>
    intro i o ho
    have hi : i < 5 := by have := (Array.getElem?_eq_some_iff.1 ho).1; simpa using this
    match i, hi with
    | 0, _ => injection ho with ho; subst ho; exact .inl ⟨66, _, rfl, rfl, fun L a w' hI hd => ex_load_row rfl (hI.fix 2 (Reg.notD rfl)) (rangeAt_block rA (hI.tch.block _ (by omega) (by omega))) HD.out.1 HD.out.2.1 (by rw [hl1i.out.1]; exact size79)⟩
    | 1, _ => injection ho with ho; subst ho; exact .inl ⟨67, _, rfl, rfl, fun L a w' hI hd => ex_load_row rfl (hI.fix 8 (Reg.notD rfl)) (rangeAt_block rB (hI.tch.block _ (by omega) (by omega))) HD.out.2.2.1 HD.out.2.2.2 size46⟩
    | 2, _ => injection ho with ho; subst ho; exact .inr (.inl ⟨rfl, rfl, _, _, _, rfl, (by rw [hl1i.out.1]; exact size79), fun L a w' hI hd => ⟨hI.fix 4 (Reg.notD rfl), (hI.pure 0 _ _ rfl (hd ⟨0, .data⟩ (by simp) rfl))⟩⟩)
    | 3, _ => injection ho with ho; subst ho; exact .inr (.inr ⟨rfl, rfl, _, _, _, rfl, size46, fun L a w' hI hd => ⟨hI.fix 5 (Reg.notD rfl), (hI.pure 1 _ _ rfl (hd ⟨1, .data⟩ (by simp) rfl))⟩⟩)
    | 4, _ => injection ho with ho; subst ho; exact .inl ⟨6, _, rfl, rfl, fun L a w' hI hd => ex_assign rfl rfl⟩
  case fin =>
    intro L a' w' hI hall
    rename_i K2 hK2
    refine hK2 _ _ ?_
    have rC := hI.sC (hall 2 (by decide))
    have rD := hI.sE (hall 3 (by decide))
    have pC : a'.eval (.tmp 4) = .pointer (some ⟨w.heap.size + 1, 0, none⟩) := hI.fix 4 (Reg.notD rfl)
    have pD : a'.eval (.tmp 5) = .pointer (some ⟨w.heap.size + 2, 0, none⟩) := hI.fix 5 (Reg.notD rfl)
    have pe : a'.eval (.tmp 6) = .bool true := hI.pure 4 6 _ rfl (hall 4 (by decide))
    have tch := hI.tch
    have hdf : a'.defers = [] := hI.df
    have hT := run_loadVar_mid (P := Try.prog) w' (w.heap.size + 1) 0 _ l1 dT rC HD.out.1 HD.out.2.1 (by rw [hl1i.out.1]; exact size79)
    have hS := run_loadVar_mid (P := Try.prog) w' (w.heap.size + 2) 0 _ _ dS rD HD.out.2.2.1 HD.out.2.2.2 size46
    have hres := results_cct (Q := Try.prog) (fn := Try.f36) (tmps := a'.tmps) (t := 4) (t' := 5) (t'' := 6) (W := w') (by rfl) pC hT pD hS
    rw [show a'.tmps.getD 6 undef = .bool true from pe] at hres
    go_wp2
    refine bodyPost_ret (v := .tuple #[.agg l1.toArray, x.val, .bool true]) hres hdf ⟨rfl, HRW.out.block (tch.block g HRW.out.lt (by omega)), ?_⟩
    have := HTW.out.trans' tch (fun k hk h => absurd hk (by omega))
    exact ⟨this.os, this.tape, this.output, this.size, fun k hk hn => this.block k hk (by simpa using hn)⟩

end Tally
end Go.Proofs.Ytpghfebnggoacaa

/-
  The tally's reference: Step: Most.
-/
namespace Go.Proofs.Ytpghfebnggoacaa
open Go.RowKit
set_option linter.unusedVariables false
set_option linter.unusedSimpArgs false
set_option linter.unnecessarySimpa false
set_option maxRecDepth 20000
namespace Tally

set_option maxHeartbeats 4000000 in
theorem rlook_ends {w : World} {g n cap : Nat} {f f' : Nat → Int} {x : Stp} {s0 s1 s2 s3 s4 s5 hand a b c hh r val : Int} {ok : Bool} (hr : IsRow w g n cap f) (h1 : 1 ≤ s5) (h2 : s5 ≤ 64) (ha : 0 ≤ a) (ha2 : a < s5) (hge : hh ≤ x.had) (hx : stepOf n f ⟨hand, 1, s5 + a, 0, 0, true⟩ = x) (hf' : wordsOf n f ⟨hand, 1, s5 + a, 0, 0, true⟩ = f') :
    Calls Try.prog 36 #[.agg (tk ⟨s0, s1, s2, s3, s4, s5⟩ hand ⟨3, a, b, c, hh⟩ 0 ⟨r, 0, 0, 0, 0, 0, 0, 0⟩ ⟨ok, val⟩).toArray, .slice (some ⟨g, 0, none⟩) n cap] w fun e w' =>
      e = .returned (.tuple #[.agg (tk ⟨s0, s1, s2, s3, s4, s5⟩ hand ⟨3, a, b, c, hh⟩ 1 ⟨x.had, 0, 0, 0, 0, 0, 0, 0⟩ ⟨false, x.had⟩).toArray, x.val, .bool true]) ∧ IsRow w' g n cap f' ∧ w.grownBy w' (some g) := by
  have DO := hide (fun (w' : World) (hr' : IsRow w' g n cap f) => ref_do (s := ⟨hand, 1, s5 + a, 0, 0, true⟩) hr' ⟨Int.le_refl 0, by show (0 : Int) ≤ 18446744073709551615; decide⟩ ⟨by show (1 : Int) ≤ 1; decide, by show (1 : Int) ≤ 5; decide⟩)
  have HX := hide hx
  have HF := hide hf'
  have lg := hr.lt
  obtain ⟨l0, hl0⟩ : ∃ l, tk ⟨s0, s1, s2, s3, s4, s5⟩ hand ⟨3, a, b, c, hh⟩ 0 ⟨r, 0, 0, 0, 0, 0, 0, 0⟩ ⟨ok, val⟩ = l := ⟨_, rfl⟩
  have hl0' : l0.length = 28 := by rw [← hl0]; rfl
  have hset : ((((l0.set 13 (.int .u64 x.had)).set 12 (.int .i64 1)).set 22 (.bool false)).set 23 (.int .u64 x.had)) = tk ⟨s0, s1, s2, s3, s4, s5⟩ hand ⟨3, a, b, c, hh⟩ 1 ⟨x.had, 0, 0, 0, 0, 0, 0, 0⟩ ⟨false, x.had⟩ := by rw [← hl0]; rfl
  obtain ⟨l1, hl1⟩ : ∃ l, tk ⟨s0, s1, s2, s3, s4, s5⟩ hand ⟨3, a, b, c, hh⟩ 1 ⟨x.had, 0, 0, 0, 0, 0, 0, 0⟩ ⟨false, x.had⟩ = l := ⟨_, rfl⟩
  rw [hl0, hl1]
  rw [hl1] at hset
  have hl1i := hide (show IsTk l1 from by rw [← hl1]; exact tk_is _ _ _ _ _ _)
  obtain ⟨W3, hW3⟩ : ∃ W3, ((w.alloc (.cells l0.toArray 62)).alloc (.cells tk0.toArray 62)).alloc (.cells [Value.int .i64 0, .int .i64 0, .int .i64 0, .int .u64 0, .int .u64 0, .bool false].toArray 73) = W3 := ⟨_, rfl⟩
  have sz3 : W3.heap.size = w.heap.size + 3 := by rw [← hW3]; simp
  have R0 : W3.rowIs w.heap.size 62 28 (lrow l0) := by rw [← hW3]; exact ((rowL_alloc w l0 _ hl0').alloc _).alloc _
  have R1 : W3.rowIs (w.heap.size + 1) 62 28 (lrow tk0) := by
    rw [← hW3]
    have := (rowL_alloc (w.alloc (.cells l0.toArray 62)) tk0 62 (n := 28) rfl).alloc (.cells [Value.int .i64 0, .int .i64 0, .int .i64 0, .int .u64 0, .int .u64 0, .bool false].toArray 73)
    rwa [World.size_alloc] at this
  have R2 : W3.rowIs (w.heap.size + 2) 73 6 (lrow [Value.int .i64 0, .int .i64 0, .int .i64 0, .int .u64 0, .int .u64 0, .bool false]) := by
    rw [← hW3]
    have := rowL_alloc ((w.alloc (.cells l0.toArray 62)).alloc (.cells tk0.toArray 62)) [Value.int .i64 0, .int .i64 0, .int .i64 0, .int .u64 0, .int .u64 0, .bool false] 73 (n := 6) rfl
    rwa [World.size_alloc, World.size_alloc] at this
  have G3 : w.grownBy W3 (some g) := by rw [← hW3]; exact grown_alloc (grown_alloc (grown_alloc (grown_refl _ _) _) _) _
  have HR3 := hide (show IsRow W3 g n cap f from hr.grown (grown_none (by rw [← hW3]; exact grown_alloc (grown_alloc (grown_alloc (grown_refl _ _) _) _) _) none) (by simp))
  have cell : ∀ i v, l0[i]? = some v → W3.cell? ⟨w.heap.size, i, none⟩ = some v := fun i v hv => by rw [R0.cell (i := i) (by have := (List.getElem?_eq_some_iff.1 hv).1; omega), lrow_of hv]
  have g5 : l0[5]? = some (.int .i64 s5) := by rw [← hl0]; rfl
  have g6 : l0[6]? = some (.int .i64 hand) := by rw [← hl0]; rfl
  have g7 : l0[7]? = some (.int .i64 3) := by rw [← hl0]; rfl
  have g8 : l0[8]? = some (.int .i64 a) := by rw [← hl0]; rfl
  have g11 : l0[11]? = some (.int .u64 hh) := by rw [← hl0]; rfl
  have g12 : l0[12]? = some (.int .i64 0) := by rw [← hl0]; rfl
  have g13 : l0[13]? = some (.int .u64 r) := by rw [← hl0]; rfl
  have g22 : l0[22]? = some (.bool ok) := by rw [← hl0]; rfl
  have g23 : l0[23]? = some (.int .u64 val) := by rw [← hl0]; rfl
  have c5 := cell 5 _ g5
  have c6 := cell 6 _ g6
  have c7 := cell 7 _ g7
  have c8 := cell 8 _ g8
  have c11 := cell 11 _ g11
  have c12 := cell 12 _ g12
  have c13 := cell 13 _ g13
  have c22 := cell 22 _ g22
  have c23 := cell 23 _ g23
  have G5 := hide g5
  have G6 := hide g6
  have G7 := hide g7
  have G8 := hide g8
  have G11 := hide g11
  have G12 := hide g12
  have G13 := hide g13
  have G22 := hide g22
  have G23 := hide g23
  obtain ⟨dT, hdT1, hdT2⟩ := row79
  obtain ⟨dS, hdS1, hdS2⟩ := row46
  have HD := hide (And.intro hdT1 (And.intro hdT2 (And.intro hdS1 hdS2)))
  have HR0 := hide R0
  have HR1 := hide R1
  have HR2 := hide R2
  have HG3 := hide G3
  have HSET := hide hset
  have HL0 := hide hl0'
  have hwr : wrap64 (s5 + a) = s5 + a := by unfold wrap64; omega
  clear hx hf' hr R0 R1 R2 G3 cell hset hl0' hl0 hl1 hdT1 hdT2 hdS1 hdS2 g5 g6 g7 g8 g11 g12 g13 g22 g23
  simp only [tk0] at hW3
  go_enter Try.func36, Try.ntmps36
  go_wp2_with (go_at_call 47; refine (DO.out _ HR3.out).mono ?_; rintro e w1 ⟨rfl, hr1, hg1⟩; rw [HX.out]; rw [HF.out] at hr1; simp only [Stp.val]; have sz1 := hg1.size; have HR4 := hide (HR0.out.of_block (hg1.block w.heap.size (by omega) (by simp; omega))); have HR5 := hide (HR1.out.of_block (hg1.block (w.heap.size + 1) (by omega) (by simp; omega))); have HR6 := hide (HR2.out.of_block (hg1.block (w.heap.size + 2) (by omega) (by simp; omega))); have HR1' := hide hr1; have HG1 := hide hg1; have e5 : w1.cell? ⟨w.heap.size, 5, none⟩ = some (.int .i64 s5) := (by rw [HR4.out.cell (i := 5) (by omega), lrow_of G5.out]); have f5 := HR4.out.frozen 5; have e6 : w1.cell? ⟨w.heap.size, 6, none⟩ = some (.int .i64 hand) := (by rw [HR4.out.cell (i := 6) (by omega), lrow_of G6.out]); have f6 := HR4.out.frozen 6; have e7 : w1.cell? ⟨w.heap.size, 7, none⟩ = some (.int .i64 3) := (by rw [HR4.out.cell (i := 7) (by omega), lrow_of G7.out]); have f7 := HR4.out.frozen 7; have e8 : w1.cell? ⟨w.heap.size, 8, none⟩ = some (.int .i64 a) := (by rw [HR4.out.cell (i := 8) (by omega), lrow_of G8.out]); have f8 := HR4.out.frozen 8; have e11 : w1.cell? ⟨w.heap.size, 11, none⟩ = some (.int .u64 hh) := (by rw [HR4.out.cell (i := 11) (by omega), lrow_of G11.out]); have f11 := HR4.out.frozen 11; have e12 : w1.cell? ⟨w.heap.size, 12, none⟩ = some (.int .i64 0) := (by rw [HR4.out.cell (i := 12) (by omega), lrow_of G12.out]); have f12 := HR4.out.frozen 12; have e13 : w1.cell? ⟨w.heap.size, 13, none⟩ = some (.int .u64 r) := (by rw [HR4.out.cell (i := 13) (by omega), lrow_of G13.out]); have f13 := HR4.out.frozen 13; have e22 : w1.cell? ⟨w.heap.size, 22, none⟩ = some (.bool ok) := (by rw [HR4.out.cell (i := 22) (by omega), lrow_of G22.out]); have f22 := HR4.out.frozen 22; have e23 : w1.cell? ⟨w.heap.size, 23, none⟩ = some (.int .u64 val) := (by rw [HR4.out.cell (i := 23) (by omega), lrow_of G23.out]); have f23 := HR4.out.frozen 23; have l1w : w.heap.size < w1.heap.size := (by omega); clear hr1 hg1 c5 c6 c7 c8 c11 c12 c13 c22 c23)
  obtain ⟨w2, hw2⟩ : ∃ w2, ((((w1.setCell ⟨w.heap.size, 13, none⟩ (.int .u64 x.had)).setCell ⟨w.heap.size, 12, none⟩ (.int .i64 1)).setCell ⟨w.heap.size, 22, none⟩ (.bool false)).setCell ⟨w.heap.size, 23, none⟩ (.int .u64 x.had)) = w2 := ⟨_, rfl⟩
  have sz2 : w2.heap.size = w1.heap.size := by rw [← hw2]; simp
  have tt2 : Touch w1 w2 (fun k => k = w.heap.size) := by rw [← hw2]; exact (Touch.setCell (S := fun k => k = w.heap.size) (Touch.setCell (S := fun k => k = w.heap.size) (Touch.setCell (S := fun k => k = w.heap.size) (Touch.setCell (S := fun k => k = w.heap.size) (Touch.refl w1 _) ⟨w.heap.size, 13, none⟩ (.inl rfl) _) ⟨w.heap.size, 12, none⟩ (.inl rfl) _) ⟨w.heap.size, 22, none⟩ (.inl rfl) _) ⟨w.heap.size, 23, none⟩ (.inl rfl) _)
  have rA : (w2.alloc (.cells [Value.int .i64 x.hand, .int .i64 x.act, .int .i64 x.at_, .int .u64 x.had, .int .u64 x.put, .bool x.ok].toArray 73)).rangeAt w.heap.size 0 l1 := by
    have := rowIs.range (rowIs.setL (rowIs.setL (rowIs.setL (rowIs.setL HR4.out (i := 13) (by simp [HL0.out]) (.int .u64 x.had)) (i := 12) (by simp [HL0.out]) (.int .i64 1)) (i := 22) (by simp [HL0.out]) (.bool false)) (i := 23) (by simp [HL0.out]) (.int .u64 x.had)) (by simp [HL0.out])
    rw [HSET.out, hw2] at this
    exact World.rangeAt_alloc this _
  have rB : (w2.alloc (.cells [Value.int .i64 x.hand, .int .i64 x.act, .int .i64 x.at_, .int .u64 x.had, .int .u64 x.put, .bool x.ok].toArray 73)).rangeAt w1.heap.size 0 [Value.int .i64 x.hand, .int .i64 x.act, .int .i64 x.at_, .int .u64 x.had, .int .u64 x.put, .bool x.ok] := by
    have := rowIs.range (rowL_alloc w2 [Value.int .i64 x.hand, .int .i64 x.act, .int .i64 x.at_, .int .u64 x.had, .int .u64 x.put, .bool x.ok] 73 (n := 6) rfl) rfl
    rwa [sz2] at this
  have tC : (w2.alloc (.cells [Value.int .i64 x.hand, .int .i64 x.act, .int .i64 x.at_, .int .u64 x.had, .int .u64 x.put, .bool x.ok].toArray 73)).there (w.heap.size + 1) 0 28 := rowIs.there ((HR5.out.of_block (tt2.block _ (by omega) (by omega))).alloc _) (by omega)
  have tD : (w2.alloc (.cells [Value.int .i64 x.hand, .int .i64 x.act, .int .i64 x.at_, .int .u64 x.had, .int .u64 x.put, .bool x.ok].toArray 73)).there (w.heap.size + 2) 0 6 := rowIs.there ((HR6.out.of_block (tt2.block _ (by omega) (by omega))).alloc _) (by omega)
  have rW : IsRow (w2.alloc (.cells [Value.int .i64 x.hand, .int .i64 x.act, .int .i64 x.at_, .int .u64 x.had, .int .u64 x.put, .bool x.ok].toArray 73)) g n cap f' := (HR1'.out.block (tt2.block g (by omega) (by omega))).alloc _
  have TW : Touch w (w2.alloc (.cells [Value.int .i64 x.hand, .int .i64 x.act, .int .i64 x.at_, .int .u64 x.had, .int .u64 x.put, .bool x.ok].toArray 73)) (fun k => k = g) := (((Touch.of_grown HG3.out).mono (S' := fun k => k = g) (fun k _ h => by simpa using h)).trans' (Touch.of_grown HG1.out) (fun k _ h => by simpa using h)).trans' (tt2.alloc _) (fun k hk h => absurd hk (by omega))
  have szA : (w2.alloc (.cells [Value.int .i64 x.hand, .int .i64 x.act, .int .i64 x.at_, .int .u64 x.had, .int .u64 x.put, .bool x.ok].toArray 73)).heap.size = w1.heap.size + 1 := by simp [sz2]
  rw [hw2]
  have HTW := hide TW
  have HRW := hide rW
  clear TW rW hw2
  obtain ⟨WA, hWA⟩ : ∃ W, (w2.alloc (.cells [Value.int .i64 x.hand, .int .i64 x.act, .int .i64 x.at_, .int .u64 x.had, .int .u64 x.put, .bool x.ok].toArray 73)) = W := ⟨_, rfl⟩
  rw [hWA] at rA rB tC tD szA HTW HRW
  have goA : (w2.alloc (.cells #[Value.int .i64 x.hand, .int .i64 x.act, .int .i64 x.at_, .int .u64 x.had, .int .u64 x.put, .bool x.ok] 73)) = WA := hWA
  simp only [goA]
  clear goA hWA
  refine RetN.region (ks := [(0, 98), (1, 99), (4, 6)]) (vals := fun i => match i with
      | 0 => .agg l1.toArray
      | 1 => .agg #[Value.int .i64 x.hand, .int .i64 x.act, .int .i64 x.at_, .int .u64 x.had, .int .u64 x.put, .bool x.ok]
      | _ => .bool true) (C := w.heap.size + 1) (E := w.heap.size + 2) (iC := 2) (iE := 3) (lt := l1) (ls := [Value.int .i64 x.hand, .int .i64 x.act, .int .i64 x.at_, .int .u64 x.had, .int .u64 x.put, .bool x.ok]) (by kernel_rfl) ?g ?b rfl (by omega) (by decide) ?dd hl1i.out.2 (by simp [Value.oneCell']) (by rw [hl1i.out.1]; exact tC) tD ?kinds ?fin
  case g =>
    intro i o ho
    have hi : i < 5 := by have := (Array.getElem?_eq_some_iff.1 ho).1; simpa using this
    match i, hi with
    | 0, _ | 1, _ | 2, _ | 3, _ | 4, _ => injection ho with ho; subst ho; rfl
  case b =>
    intro i o ho
    have hi : i < 5 := by have := (Array.getElem?_eq_some_iff.1 ho).1; simpa using this
    match i, hi with
    | 0, _ | 1, _ | 2, _ | 3, _ | 4, _ => injection ho with ho; subst ho; simp [Region.binds]
  case dd =>
    intro k hk
    have hk' : k < 125 := by
      simp [RetN.D] at hk
      omega
    simpa using hk'
  case kinds =>
    intro i o ho
    have hi : i < 5 := by have := (Array.getElem?_eq_some_iff.1 ho).1; simpa using this
    match i, hi with
    | 0, _ => injection ho with ho; subst ho; exact .inl ⟨98, _, rfl, rfl, fun L a w' hI hd => ex_load_row rfl (hI.fix 2 (Reg.notD rfl)) (rangeAt_block rA (hI.tch.block _ (by omega) (by omega))) HD.out.1 HD.out.2.1 (by rw [hl1i.out.1]; exact size79)⟩
    | 1, _ => injection ho with ho; subst ho; exact .inl ⟨99, _, rfl, rfl, fun L a w' hI hd => ex_load_row rfl (hI.fix 10 (Reg.notD rfl)) (rangeAt_block rB (hI.tch.block _ (by omega) (by omega))) HD.out.2.2.1 HD.out.2.2.2 size46⟩
    | 2, _ => injection ho with ho; subst ho; exact .inr (.inl ⟨rfl, rfl, _, _, _, rfl, (by rw [hl1i.out.1]; exact size79), fun L a w' hI hd => ⟨hI.fix 4 (Reg.notD rfl), (hI.pure 0 _ _ rfl (hd ⟨0, .data⟩ (by simp) rfl))⟩⟩)
    | 3, _ => injection ho with ho; subst ho; exact .inr (.inr ⟨rfl, rfl, _, _, _, rfl, size46, fun L a w' hI hd => ⟨hI.fix 5 (Reg.notD rfl), (hI.pure 1 _ _ rfl (hd ⟨1, .data⟩ (by simp) rfl))⟩⟩)
    | 4, _ => injection ho with ho; subst ho; exact .inl ⟨6, _, rfl, rfl, fun L a w' hI hd => ex_assign rfl rfl⟩
  case fin =>
    intro L a' w' hI hall
    rename_i K2 hK2
    refine hK2 _ _ ?_
    have rC := hI.sC (hall 2 (by decide))
    have rD := hI.sE (hall 3 (by decide))
    have pC : a'.eval (.tmp 4) = .pointer (some ⟨w.heap.size + 1, 0, none⟩) := hI.fix 4 (Reg.notD rfl)
    have pD : a'.eval (.tmp 5) = .pointer (some ⟨w.heap.size + 2, 0, none⟩) := hI.fix 5 (Reg.notD rfl)
    have pe : a'.eval (.tmp 6) = .bool true := hI.pure 4 6 _ rfl (hall 4 (by decide))
    have tch := hI.tch
    have hdf : a'.defers = [] := hI.df
    have hT := run_loadVar_mid (P := Try.prog) w' (w.heap.size + 1) 0 _ l1 dT rC HD.out.1 HD.out.2.1 (by rw [hl1i.out.1]; exact size79)
    have hS := run_loadVar_mid (P := Try.prog) w' (w.heap.size + 2) 0 _ _ dS rD HD.out.2.2.1 HD.out.2.2.2 size46
    have hres := results_cct (Q := Try.prog) (fn := Try.f36) (tmps := a'.tmps) (t := 4) (t' := 5) (t'' := 6) (W := w') (by rfl) pC hT pD hS
    rw [show a'.tmps.getD 6 undef = .bool true from pe] at hres
    go_wp2
    refine bodyPost_ret (v := .tuple #[.agg l1.toArray, x.val, .bool true]) hres hdf ⟨rfl, HRW.out.block (tch.block g HRW.out.lt (by omega)), ?_⟩
    have := HTW.out.trans' tch (fun k hk h => absurd hk (by omega))
    exact ⟨this.os, this.tape, this.output, this.size, fun k hk hn => this.block k hk (by simpa using hn)⟩

set_option maxHeartbeats 4000000 in
theorem rlook_goes {w : World} {g n cap : Nat} {f f' : Nat → Int} {x : Stp} {s0 s1 s2 s3 s4 s5 hand a b c hh r val : Int} {ok : Bool} (hr : IsRow w g n cap f) (h1 : 1 ≤ s5) (h2 : s5 ≤ 64) (ha : 0 ≤ a) (ha2 : a < s5) (hge : ¬ hh ≤ x.had) (hx : stepOf n f ⟨hand, 1, s5 + a, 0, 0, true⟩ = x) (hf' : wordsOf n f ⟨hand, 1, s5 + a, 0, 0, true⟩ = f') :
    Calls Try.prog 36 #[.agg (tk ⟨s0, s1, s2, s3, s4, s5⟩ hand ⟨3, a, b, c, hh⟩ 0 ⟨r, 0, 0, 0, 0, 0, 0, 0⟩ ⟨ok, val⟩).toArray, .slice (some ⟨g, 0, none⟩) n cap] w fun e w' =>
      e = .returned (.tuple #[.agg (tk ⟨s0, s1, s2, s3, s4, s5⟩ hand ⟨3, a, b, c, hh⟩ 1 ⟨x.had, 0, 0, 0, 0, 0, 0, 0⟩ ⟨ok, val⟩).toArray, x.val, .bool false]) ∧ IsRow w' g n cap f' ∧ w.grownBy w' (some g) := by
  have DO := hide (fun (w' : World) (hr' : IsRow w' g n cap f) => ref_do (s := ⟨hand, 1, s5 + a, 0, 0, true⟩) hr' ⟨Int.le_refl 0, by show (0 : Int) ≤ 18446744073709551615; decide⟩ ⟨by show (1 : Int) ≤ 1; decide, by show (1 : Int) ≤ 5; decide⟩)
  have HX := hide hx
  have HF := hide hf'
  have lg := hr.lt
  obtain ⟨l0, hl0⟩ : ∃ l, tk ⟨s0, s1, s2, s3, s4, s5⟩ hand ⟨3, a, b, c, hh⟩ 0 ⟨r, 0, 0, 0, 0, 0, 0, 0⟩ ⟨ok, val⟩ = l := ⟨_, rfl⟩
  have hl0' : l0.length = 28 := by rw [← hl0]; rfl
  have hset : ((l0.set 13 (.int .u64 x.had)).set 12 (.int .i64 1)) = tk ⟨s0, s1, s2, s3, s4, s5⟩ hand ⟨3, a, b, c, hh⟩ 1 ⟨x.had, 0, 0, 0, 0, 0, 0, 0⟩ ⟨ok, val⟩ := by rw [← hl0]; rfl
  obtain ⟨l1, hl1⟩ : ∃ l, tk ⟨s0, s1, s2, s3, s4, s5⟩ hand ⟨3, a, b, c, hh⟩ 1 ⟨x.had, 0, 0, 0, 0, 0, 0, 0⟩ ⟨ok, val⟩ = l := ⟨_, rfl⟩
  rw [hl0, hl1]
  rw [hl1] at hset
  have hl1i := hide (show IsTk l1 from by rw [← hl1]; exact tk_is _ _ _ _ _ _)
  obtain ⟨W3, hW3⟩ : ∃ W3, ((w.alloc (.cells l0.toArray 62)).alloc (.cells tk0.toArray 62)).alloc (.cells [Value.int .i64 0, .int .i64 0, .int .i64 0, .int .u64 0, .int .u64 0, .bool false].toArray 73) = W3 := ⟨_, rfl⟩
  have sz3 : W3.heap.size = w.heap.size + 3 := by rw [← hW3]; simp
  have R0 : W3.rowIs w.heap.size 62 28 (lrow l0) := by rw [← hW3]; exact ((rowL_alloc w l0 _ hl0').alloc _).alloc _
  have R1 : W3.rowIs (w.heap.size + 1) 62 28 (lrow tk0) := by
    rw [← hW3]
    have := (rowL_alloc (w.alloc (.cells l0.toArray 62)) tk0 62 (n := 28) rfl).alloc (.cells [Value.int .i64 0, .int .i64 0, .int .i64 0, .int .u64 0, .int .u64 0, .bool false].toArray 73)
    rwa [World.size_alloc] at this
  have R2 : W3.rowIs (w.heap.size + 2) 73 6 (lrow [Value.int .i64 0, .int .i64 0, .int .i64 0, .int .u64 0, .int .u64 0, .bool false]) := by
    rw [← hW3]
    have := rowL_alloc ((w.alloc (.cells l0.toArray 62)).alloc (.cells tk0.toArray 62)) [Value.int .i64 0, .int .i64 0, .int .i64 0, .int .u64 0, .int .u64 0, .bool false] 73 (n := 6) rfl
    rwa [World.size_alloc, World.size_alloc] at this
  have G3 : w.grownBy W3 (some g) := by rw [← hW3]; exact grown_alloc (grown_alloc (grown_alloc (grown_refl _ _) _) _) _
  have HR3 := hide (show IsRow W3 g n cap f from hr.grown (grown_none (by rw [← hW3]; exact grown_alloc (grown_alloc (grown_alloc (grown_refl _ _) _) _) _) none) (by simp))
  have cell : ∀ i v, l0[i]? = some v → W3.cell? ⟨w.heap.size, i, none⟩ = some v := fun i v hv => by rw [R0.cell (i := i) (by have := (List.getElem?_eq_some_iff.1 hv).1; omega), lrow_of hv]
  have g5 : l0[5]? = some (.int .i64 s5) := by rw [← hl0]; rfl
  have g6 : l0[6]? = some (.int .i64 hand) := by rw [← hl0]; rfl
  have g7 : l0[7]? = some (.int .i64 3) := by rw [← hl0]; rfl
  have g8 : l0[8]? = some (.int .i64 a) := by rw [← hl0]; rfl
  have g11 : l0[11]? = some (.int .u64 hh) := by rw [← hl0]; rfl
  have g12 : l0[12]? = some (.int .i64 0) := by rw [← hl0]; rfl
  have g13 : l0[13]? = some (.int .u64 r) := by rw [← hl0]; rfl
  have g22 : l0[22]? = some (.bool ok) := by rw [← hl0]; rfl
  have g23 : l0[23]? = some (.int .u64 val) := by rw [← hl0]; rfl
  have c5 := cell 5 _ g5
  have c6 := cell 6 _ g6
  have c7 := cell 7 _ g7
  have c8 := cell 8 _ g8
  have c11 := cell 11 _ g11
  have c12 := cell 12 _ g12
  have c13 := cell 13 _ g13
  have c22 := cell 22 _ g22
  have c23 := cell 23 _ g23
  have G5 := hide g5
  have G6 := hide g6
  have G7 := hide g7
  have G8 := hide g8
  have G11 := hide g11
  have G12 := hide g12
  have G13 := hide g13
  have G22 := hide g22
  have G23 := hide g23
  obtain ⟨dT, hdT1, hdT2⟩ := row79
  obtain ⟨dS, hdS1, hdS2⟩ := row46
  have HD := hide (And.intro hdT1 (And.intro hdT2 (And.intro hdS1 hdS2)))
  have HR0 := hide R0
  have HR1 := hide R1
  have HR2 := hide R2
  have HG3 := hide G3
  have HSET := hide hset
  have HL0 := hide hl0'
  have hwr : wrap64 (s5 + a) = s5 + a := by unfold wrap64; omega
  clear hx hf' hr R0 R1 R2 G3 cell hset hl0' hl0 hl1 hdT1 hdT2 hdS1 hdS2 g5 g6 g7 g8 g11 g12 g13 g22 g23
  simp only [tk0] at hW3
  go_enter Try.func36, Try.ntmps36
  go_wp2_with (go_at_call 47; refine (DO.out _ HR3.out).mono ?_; rintro e w1 ⟨rfl, hr1, hg1⟩; rw [HX.out]; rw [HF.out] at hr1; simp only [Stp.val]; have sz1 := hg1.size; have HR4 := hide (HR0.out.of_block (hg1.block w.heap.size (by omega) (by simp; omega))); have HR5 := hide (HR1.out.of_block (hg1.block (w.heap.size + 1) (by omega) (by simp; omega))); have HR6 := hide (HR2.out.of_block (hg1.block (w.heap.size + 2) (by omega) (by simp; omega))); have HR1' := hide hr1; have HG1 := hide hg1; have e5 : w1.cell? ⟨w.heap.size, 5, none⟩ = some (.int .i64 s5) := (by rw [HR4.out.cell (i := 5) (by omega), lrow_of G5.out]); have f5 := HR4.out.frozen 5; have e6 : w1.cell? ⟨w.heap.size, 6, none⟩ = some (.int .i64 hand) := (by rw [HR4.out.cell (i := 6) (by omega), lrow_of G6.out]); have f6 := HR4.out.frozen 6; have e7 : w1.cell? ⟨w.heap.size, 7, none⟩ = some (.int .i64 3) := (by rw [HR4.out.cell (i := 7) (by omega), lrow_of G7.out]); have f7 := HR4.out.frozen 7; have e8 : w1.cell? ⟨w.heap.size, 8, none⟩ = some (.int .i64 a) := (by rw [HR4.out.cell (i := 8) (by omega), lrow_of G8.out]); have f8 := HR4.out.frozen 8; have e11 : w1.cell? ⟨w.heap.size, 11, none⟩ = some (.int .u64 hh) := (by rw [HR4.out.cell (i := 11) (by omega), lrow_of G11.out]); have f11 := HR4.out.frozen 11; have e12 : w1.cell? ⟨w.heap.size, 12, none⟩ = some (.int .i64 0) := (by rw [HR4.out.cell (i := 12) (by omega), lrow_of G12.out]); have f12 := HR4.out.frozen 12; have e13 : w1.cell? ⟨w.heap.size, 13, none⟩ = some (.int .u64 r) := (by rw [HR4.out.cell (i := 13) (by omega), lrow_of G13.out]); have f13 := HR4.out.frozen 13; have e22 : w1.cell? ⟨w.heap.size, 22, none⟩ = some (.bool ok) := (by rw [HR4.out.cell (i := 22) (by omega), lrow_of G22.out]); have f22 := HR4.out.frozen 22; have e23 : w1.cell? ⟨w.heap.size, 23, none⟩ = some (.int .u64 val) := (by rw [HR4.out.cell (i := 23) (by omega), lrow_of G23.out]); have f23 := HR4.out.frozen 23; have l1w : w.heap.size < w1.heap.size := (by omega); clear hr1 hg1 c5 c6 c7 c8 c11 c12 c13 c22 c23)
  obtain ⟨w2, hw2⟩ : ∃ w2, ((w1.setCell ⟨w.heap.size, 13, none⟩ (.int .u64 x.had)).setCell ⟨w.heap.size, 12, none⟩ (.int .i64 1)) = w2 := ⟨_, rfl⟩
  have sz2 : w2.heap.size = w1.heap.size := by rw [← hw2]; simp
  have tt2 : Touch w1 w2 (fun k => k = w.heap.size) := by rw [← hw2]; exact (Touch.setCell (S := fun k => k = w.heap.size) (Touch.setCell (S := fun k => k = w.heap.size) (Touch.refl w1 _) ⟨w.heap.size, 13, none⟩ (.inl rfl) _) ⟨w.heap.size, 12, none⟩ (.inl rfl) _)
  have rA : (w2.alloc (.cells [Value.int .i64 x.hand, .int .i64 x.act, .int .i64 x.at_, .int .u64 x.had, .int .u64 x.put, .bool x.ok].toArray 73)).rangeAt w.heap.size 0 l1 := by
    have := rowIs.range (rowIs.setL (rowIs.setL HR4.out (i := 13) (by simp [HL0.out]) (.int .u64 x.had)) (i := 12) (by simp [HL0.out]) (.int .i64 1)) (by simp [HL0.out])
    rw [HSET.out, hw2] at this
    exact World.rangeAt_alloc this _
  have rB : (w2.alloc (.cells [Value.int .i64 x.hand, .int .i64 x.act, .int .i64 x.at_, .int .u64 x.had, .int .u64 x.put, .bool x.ok].toArray 73)).rangeAt w1.heap.size 0 [Value.int .i64 x.hand, .int .i64 x.act, .int .i64 x.at_, .int .u64 x.had, .int .u64 x.put, .bool x.ok] := by
    have := rowIs.range (rowL_alloc w2 [Value.int .i64 x.hand, .int .i64 x.act, .int .i64 x.at_, .int .u64 x.had, .int .u64 x.put, .bool x.ok] 73 (n := 6) rfl) rfl
    rwa [sz2] at this
  have tC : (w2.alloc (.cells [Value.int .i64 x.hand, .int .i64 x.act, .int .i64 x.at_, .int .u64 x.had, .int .u64 x.put, .bool x.ok].toArray 73)).there (w.heap.size + 1) 0 28 := rowIs.there ((HR5.out.of_block (tt2.block _ (by omega) (by omega))).alloc _) (by omega)
  have tD : (w2.alloc (.cells [Value.int .i64 x.hand, .int .i64 x.act, .int .i64 x.at_, .int .u64 x.had, .int .u64 x.put, .bool x.ok].toArray 73)).there (w.heap.size + 2) 0 6 := rowIs.there ((HR6.out.of_block (tt2.block _ (by omega) (by omega))).alloc _) (by omega)
  have rW : IsRow (w2.alloc (.cells [Value.int .i64 x.hand, .int .i64 x.act, .int .i64 x.at_, .int .u64 x.had, .int .u64 x.put, .bool x.ok].toArray 73)) g n cap f' := (HR1'.out.block (tt2.block g (by omega) (by omega))).alloc _
  have TW : Touch w (w2.alloc (.cells [Value.int .i64 x.hand, .int .i64 x.act, .int .i64 x.at_, .int .u64 x.had, .int .u64 x.put, .bool x.ok].toArray 73)) (fun k => k = g) := (((Touch.of_grown HG3.out).mono (S' := fun k => k = g) (fun k _ h => by simpa using h)).trans' (Touch.of_grown HG1.out) (fun k _ h => by simpa using h)).trans' (tt2.alloc _) (fun k hk h => absurd hk (by omega))
  have szA : (w2.alloc (.cells [Value.int .i64 x.hand, .int .i64 x.act, .int .i64 x.at_, .int .u64 x.had, .int .u64 x.put, .bool x.ok].toArray 73)).heap.size = w1.heap.size + 1 := by simp [sz2]
  rw [hw2]
  have HTW := hide TW
  have HRW := hide rW
  clear TW rW hw2
  obtain ⟨WA, hWA⟩ : ∃ W, (w2.alloc (.cells [Value.int .i64 x.hand, .int .i64 x.act, .int .i64 x.at_, .int .u64 x.had, .int .u64 x.put, .bool x.ok].toArray 73)) = W := ⟨_, rfl⟩
  rw [hWA] at rA rB tC tD szA HTW HRW
  have goA : (w2.alloc (.cells #[Value.int .i64 x.hand, .int .i64 x.act, .int .i64 x.at_, .int .u64 x.had, .int .u64 x.put, .bool x.ok] 73)) = WA := hWA
  simp only [goA]
  clear goA hWA
  refine RetN.region (ks := [(0, 100), (1, 101), (4, 6)]) (vals := fun i => match i with
      | 0 => .agg l1.toArray
      | 1 => .agg #[Value.int .i64 x.hand, .int .i64 x.act, .int .i64 x.at_, .int .u64 x.had, .int .u64 x.put, .bool x.ok]
      | _ => .bool false) (C := w.heap.size + 1) (E := w.heap.size + 2) (iC := 2) (iE := 3) (lt := l1) (ls := [Value.int .i64 x.hand, .int .i64 x.act, .int .i64 x.at_, .int .u64 x.had, .int .u64 x.put, .bool x.ok]) (by kernel_rfl) ?g ?b rfl (by omega) (by decide) ?dd hl1i.out.2 (by simp [Value.oneCell']) (by rw [hl1i.out.1]; exact tC) tD ?kinds ?fin
  case g =>
    intro i o ho
    have hi : i < 5 := by have := (Array.getElem?_eq_some_iff.1 ho).1; simpa using this
    match i, hi with
    | 0, _ | 1, _ | 2, _ | 3, _ | 4, _ => injection ho with ho; subst ho; rfl
  case b =>
    intro i o ho
    have hi : i < 5 := by have := (Array.getElem?_eq_some_iff.1 ho).1; simpa using this
    match i, hi with
    | 0, _ | 1, _ | 2, _ | 3, _ | 4, _ => injection ho with ho; subst ho; simp [Region.binds]
  case dd =>
    intro k hk
    have hk' : k < 125 := by
      simp [RetN.D] at hk
      omega
    simpa using hk'
  case kinds =>
    intro i o ho
    have hi : i < 5 := by have := (Array.getElem?_eq_some_iff.1 ho).1; simpa using this
    match i, hi with
    | 0, _ => injection ho with ho; subst ho; exact .inl ⟨100, _, rfl, rfl, fun L a w' hI hd => ex_load_row rfl (hI.fix 2 (Reg.notD rfl)) (rangeAt_block rA (hI.tch.block _ (by omega) (by omega))) HD.out.1 HD.out.2.1 (by rw [hl1i.out.1]; exact size79)⟩
    | 1, _ => injection ho with ho; subst ho; exact .inl ⟨101, _, rfl, rfl, fun L a w' hI hd => ex_load_row rfl (hI.fix 10 (Reg.notD rfl)) (rangeAt_block rB (hI.tch.block _ (by omega) (by omega))) HD.out.2.2.1 HD.out.2.2.2 size46⟩
    | 2, _ => injection ho with ho; subst ho; exact .inr (.inl ⟨rfl, rfl, _, _, _, rfl, (by rw [hl1i.out.1]; exact size79), fun L a w' hI hd => ⟨hI.fix 4 (Reg.notD rfl), (hI.pure 0 _ _ rfl (hd ⟨0, .data⟩ (by simp) rfl))⟩⟩)
    | 3, _ => injection ho with ho; subst ho; exact .inr (.inr ⟨rfl, rfl, _, _, _, rfl, size46, fun L a w' hI hd => ⟨hI.fix 5 (Reg.notD rfl), (hI.pure 1 _ _ rfl (hd ⟨1, .data⟩ (by simp) rfl))⟩⟩)
    | 4, _ => injection ho with ho; subst ho; exact .inl ⟨6, _, rfl, rfl, fun L a w' hI hd => ex_assign rfl rfl⟩
  case fin =>
    intro L a' w' hI hall
    rename_i K2 hK2
    refine hK2 _ _ ?_
    have rC := hI.sC (hall 2 (by decide))
    have rD := hI.sE (hall 3 (by decide))
    have pC : a'.eval (.tmp 4) = .pointer (some ⟨w.heap.size + 1, 0, none⟩) := hI.fix 4 (Reg.notD rfl)
    have pD : a'.eval (.tmp 5) = .pointer (some ⟨w.heap.size + 2, 0, none⟩) := hI.fix 5 (Reg.notD rfl)
    have pe : a'.eval (.tmp 6) = .bool false := hI.pure 4 6 _ rfl (hall 4 (by decide))
    have tch := hI.tch
    have hdf : a'.defers = [] := hI.df
    have hT := run_loadVar_mid (P := Try.prog) w' (w.heap.size + 1) 0 _ l1 dT rC HD.out.1 HD.out.2.1 (by rw [hl1i.out.1]; exact size79)
    have hS := run_loadVar_mid (P := Try.prog) w' (w.heap.size + 2) 0 _ _ dS rD HD.out.2.2.1 HD.out.2.2.2 size46
    have hres := results_cct (Q := Try.prog) (fn := Try.f36) (tmps := a'.tmps) (t := 4) (t' := 5) (t'' := 6) (W := w') (by rfl) pC hT pD hS
    rw [show a'.tmps.getD 6 undef = .bool false from pe] at hres
    go_wp2
    refine bodyPost_ret (v := .tuple #[.agg l1.toArray, x.val, .bool false]) hres hdf ⟨rfl, HRW.out.block (tch.block g HRW.out.lt (by omega)), ?_⟩
    have := HTW.out.trans' tch (fun k hk h => absurd hk (by omega))
    exact ⟨this.os, this.tape, this.output, this.size, fun k hk hn => this.block k hk (by simpa using hn)⟩

end Tally
end Go.Proofs.Ytpghfebnggoacaa

/-
  The tally's reference: Step: Most's CAS.
-/
namespace Go.Proofs.Ytpghfebnggoacaa
open Go.RowKit
set_option linter.unusedVariables false
set_option linter.unusedSimpArgs false
set_option linter.unnecessarySimpa false
set_option maxRecDepth 20000
namespace Tally

set_option maxHeartbeats 4000000 in
theorem rcas_ends {w : World} {g n cap : Nat} {f f' : Nat → Int} {xh xa xt xd xp : Int} {s0 s1 s2 s3 s4 s5 hand a b c hh r val st : Int} {ok : Bool} (hr : IsRow w g n cap f) (h1 : 1 ≤ s5) (h2 : s5 ≤ 64) (ha : 0 ≤ a) (ha2 : a < s5) (hw : 0 ≤ hh ∧ hh ≤ 18446744073709551615) (h0 : ¬ st = 0) (hx : stepOf n f ⟨hand, 5, s5 + a, r, hh, true⟩ = ⟨xh, xa, xt, xd, xp, true⟩) (hf' : wordsOf n f ⟨hand, 5, s5 + a, r, hh, true⟩ = f') :
    Calls Try.prog 36 #[.agg (tk ⟨s0, s1, s2, s3, s4, s5⟩ hand ⟨3, a, b, c, hh⟩ st ⟨r, 0, 0, 0, 0, 0, 0, 0⟩ ⟨ok, val⟩).toArray, .slice (some ⟨g, 0, none⟩) n cap] w fun e w' =>
      e = .returned (.tuple #[.agg (tk ⟨s0, s1, s2, s3, s4, s5⟩ hand ⟨3, a, b, c, hh⟩ 0 ⟨r, 0, 0, 0, 0, 0, 0, 0⟩ ⟨true, hh⟩).toArray, (⟨xh, xa, xt, xd, xp, true⟩ : Stp).val, .bool true]) ∧ IsRow w' g n cap f' ∧ w.grownBy w' (some g) := by
  have DO := hide (fun (w' : World) (hr' : IsRow w' g n cap f) => ref_do (s := ⟨hand, 5, s5 + a, r, hh, true⟩) hr' hw ⟨by show (1 : Int) ≤ 5; decide, by show (5 : Int) ≤ 5; decide⟩)
  have HX := hide hx
  have HF := hide hf'
  have lg := hr.lt
  obtain ⟨l0, hl0⟩ : ∃ l, tk ⟨s0, s1, s2, s3, s4, s5⟩ hand ⟨3, a, b, c, hh⟩ st ⟨r, 0, 0, 0, 0, 0, 0, 0⟩ ⟨ok, val⟩ = l := ⟨_, rfl⟩
  have hl0' : l0.length = 28 := by rw [← hl0]; rfl
  have hset : (((l0.set 12 (.int .i64 0)).set 22 (.bool true)).set 23 (.int .u64 hh)) = tk ⟨s0, s1, s2, s3, s4, s5⟩ hand ⟨3, a, b, c, hh⟩ 0 ⟨r, 0, 0, 0, 0, 0, 0, 0⟩ ⟨true, hh⟩ := by rw [← hl0]; rfl
  obtain ⟨l1, hl1⟩ : ∃ l, tk ⟨s0, s1, s2, s3, s4, s5⟩ hand ⟨3, a, b, c, hh⟩ 0 ⟨r, 0, 0, 0, 0, 0, 0, 0⟩ ⟨true, hh⟩ = l := ⟨_, rfl⟩
  rw [hl0, hl1]
  rw [hl1] at hset
  have hl1i := hide (show IsTk l1 from by rw [← hl1]; exact tk_is _ _ _ _ _ _)
  obtain ⟨W3, hW3⟩ : ∃ W3, ((w.alloc (.cells l0.toArray 62)).alloc (.cells tk0.toArray 62)).alloc (.cells [Value.int .i64 0, .int .i64 0, .int .i64 0, .int .u64 0, .int .u64 0, .bool false].toArray 73) = W3 := ⟨_, rfl⟩
  have sz3 : W3.heap.size = w.heap.size + 3 := by rw [← hW3]; simp
  have R0 : W3.rowIs w.heap.size 62 28 (lrow l0) := by rw [← hW3]; exact ((rowL_alloc w l0 _ hl0').alloc _).alloc _
  have R1 : W3.rowIs (w.heap.size + 1) 62 28 (lrow tk0) := by
    rw [← hW3]
    have := (rowL_alloc (w.alloc (.cells l0.toArray 62)) tk0 62 (n := 28) rfl).alloc (.cells [Value.int .i64 0, .int .i64 0, .int .i64 0, .int .u64 0, .int .u64 0, .bool false].toArray 73)
    rwa [World.size_alloc] at this
  have R2 : W3.rowIs (w.heap.size + 2) 73 6 (lrow [Value.int .i64 0, .int .i64 0, .int .i64 0, .int .u64 0, .int .u64 0, .bool false]) := by
    rw [← hW3]
    have := rowL_alloc ((w.alloc (.cells l0.toArray 62)).alloc (.cells tk0.toArray 62)) [Value.int .i64 0, .int .i64 0, .int .i64 0, .int .u64 0, .int .u64 0, .bool false] 73 (n := 6) rfl
    rwa [World.size_alloc, World.size_alloc] at this
  have G3 : w.grownBy W3 (some g) := by rw [← hW3]; exact grown_alloc (grown_alloc (grown_alloc (grown_refl _ _) _) _) _
  have HR3 := hide (show IsRow W3 g n cap f from hr.grown (grown_none (by rw [← hW3]; exact grown_alloc (grown_alloc (grown_alloc (grown_refl _ _) _) _) _) none) (by simp))
  have cell : ∀ i v, l0[i]? = some v → W3.cell? ⟨w.heap.size, i, none⟩ = some v := fun i v hv => by rw [R0.cell (i := i) (by have := (List.getElem?_eq_some_iff.1 hv).1; omega), lrow_of hv]
  have g5 : l0[5]? = some (.int .i64 s5) := by rw [← hl0]; rfl
  have g6 : l0[6]? = some (.int .i64 hand) := by rw [← hl0]; rfl
  have g7 : l0[7]? = some (.int .i64 3) := by rw [← hl0]; rfl
  have g8 : l0[8]? = some (.int .i64 a) := by rw [← hl0]; rfl
  have g11 : l0[11]? = some (.int .u64 hh) := by rw [← hl0]; rfl
  have g12 : l0[12]? = some (.int .i64 st) := by rw [← hl0]; rfl
  have g13 : l0[13]? = some (.int .u64 r) := by rw [← hl0]; rfl
  have g22 : l0[22]? = some (.bool ok) := by rw [← hl0]; rfl
  have g23 : l0[23]? = some (.int .u64 val) := by rw [← hl0]; rfl
  have c5 := cell 5 _ g5
  have c6 := cell 6 _ g6
  have c7 := cell 7 _ g7
  have c8 := cell 8 _ g8
  have c11 := cell 11 _ g11
  have c12 := cell 12 _ g12
  have c13 := cell 13 _ g13
  have c22 := cell 22 _ g22
  have c23 := cell 23 _ g23
  have G5 := hide g5
  have G6 := hide g6
  have G7 := hide g7
  have G8 := hide g8
  have G11 := hide g11
  have G12 := hide g12
  have G13 := hide g13
  have G22 := hide g22
  have G23 := hide g23
  obtain ⟨dT, hdT1, hdT2⟩ := row79
  obtain ⟨dS, hdS1, hdS2⟩ := row46
  have HD := hide (And.intro hdT1 (And.intro hdT2 (And.intro hdS1 hdS2)))
  have HR0 := hide R0
  have HR1 := hide R1
  have HR2 := hide R2
  have HG3 := hide G3
  have HSET := hide hset
  have HL0 := hide hl0'
  have hwr : wrap64 (s5 + a) = s5 + a := by unfold wrap64; omega
  clear hx hf' hr R0 R1 R2 G3 cell hset hl0' hl0 hl1 hdT1 hdT2 hdS1 hdS2 g5 g6 g7 g8 g11 g12 g13 g22 g23
  simp only [tk0] at hW3
  go_enter Try.func36, Try.ntmps36
  go_wp2_with (go_at_call 47; refine (DO.out _ HR3.out).mono ?_; rintro e w1 ⟨rfl, hr1, hg1⟩; rw [HX.out]; rw [HF.out] at hr1; simp only [Stp.val]; have sz1 := hg1.size; have HR4 := hide (HR0.out.of_block (hg1.block w.heap.size (by omega) (by simp; omega))); have HR5 := hide (HR1.out.of_block (hg1.block (w.heap.size + 1) (by omega) (by simp; omega))); have HR6 := hide (HR2.out.of_block (hg1.block (w.heap.size + 2) (by omega) (by simp; omega))); have HR1' := hide hr1; have HG1 := hide hg1; have e5 : w1.cell? ⟨w.heap.size, 5, none⟩ = some (.int .i64 s5) := (by rw [HR4.out.cell (i := 5) (by omega), lrow_of G5.out]); have f5 := HR4.out.frozen 5; have e6 : w1.cell? ⟨w.heap.size, 6, none⟩ = some (.int .i64 hand) := (by rw [HR4.out.cell (i := 6) (by omega), lrow_of G6.out]); have f6 := HR4.out.frozen 6; have e7 : w1.cell? ⟨w.heap.size, 7, none⟩ = some (.int .i64 3) := (by rw [HR4.out.cell (i := 7) (by omega), lrow_of G7.out]); have f7 := HR4.out.frozen 7; have e8 : w1.cell? ⟨w.heap.size, 8, none⟩ = some (.int .i64 a) := (by rw [HR4.out.cell (i := 8) (by omega), lrow_of G8.out]); have f8 := HR4.out.frozen 8; have e11 : w1.cell? ⟨w.heap.size, 11, none⟩ = some (.int .u64 hh) := (by rw [HR4.out.cell (i := 11) (by omega), lrow_of G11.out]); have f11 := HR4.out.frozen 11; have e12 : w1.cell? ⟨w.heap.size, 12, none⟩ = some (.int .i64 st) := (by rw [HR4.out.cell (i := 12) (by omega), lrow_of G12.out]); have f12 := HR4.out.frozen 12; have e13 : w1.cell? ⟨w.heap.size, 13, none⟩ = some (.int .u64 r) := (by rw [HR4.out.cell (i := 13) (by omega), lrow_of G13.out]); have f13 := HR4.out.frozen 13; have e22 : w1.cell? ⟨w.heap.size, 22, none⟩ = some (.bool ok) := (by rw [HR4.out.cell (i := 22) (by omega), lrow_of G22.out]); have f22 := HR4.out.frozen 22; have e23 : w1.cell? ⟨w.heap.size, 23, none⟩ = some (.int .u64 val) := (by rw [HR4.out.cell (i := 23) (by omega), lrow_of G23.out]); have f23 := HR4.out.frozen 23; have l1w : w.heap.size < w1.heap.size := (by omega); clear hr1 hg1 c5 c6 c7 c8 c11 c12 c13 c22 c23)
  obtain ⟨w2, hw2⟩ : ∃ w2, (((w1.setCell ⟨w.heap.size, 12, none⟩ (.int .i64 0)).setCell ⟨w.heap.size, 22, none⟩ (.bool true)).setCell ⟨w.heap.size, 23, none⟩ (.int .u64 hh)) = w2 := ⟨_, rfl⟩
  have sz2 : w2.heap.size = w1.heap.size := by rw [← hw2]; simp
  have tt2 : Touch w1 w2 (fun k => k = w.heap.size) := by rw [← hw2]; exact (Touch.setCell (S := fun k => k = w.heap.size) (Touch.setCell (S := fun k => k = w.heap.size) (Touch.setCell (S := fun k => k = w.heap.size) (Touch.refl w1 _) ⟨w.heap.size, 12, none⟩ (.inl rfl) _) ⟨w.heap.size, 22, none⟩ (.inl rfl) _) ⟨w.heap.size, 23, none⟩ (.inl rfl) _)
  have rA : (w2.alloc (.cells [Value.int .i64 xh, .int .i64 xa, .int .i64 xt, .int .u64 xd, .int .u64 xp, .bool true].toArray 73)).rangeAt w.heap.size 0 l1 := by
    have := rowIs.range (rowIs.setL (rowIs.setL (rowIs.setL HR4.out (i := 12) (by simp [HL0.out]) (.int .i64 0)) (i := 22) (by simp [HL0.out]) (.bool true)) (i := 23) (by simp [HL0.out]) (.int .u64 hh)) (by simp [HL0.out])
    rw [HSET.out, hw2] at this
    exact World.rangeAt_alloc this _
  have rB : (w2.alloc (.cells [Value.int .i64 xh, .int .i64 xa, .int .i64 xt, .int .u64 xd, .int .u64 xp, .bool true].toArray 73)).rangeAt w1.heap.size 0 [Value.int .i64 xh, .int .i64 xa, .int .i64 xt, .int .u64 xd, .int .u64 xp, .bool true] := by
    have := rowIs.range (rowL_alloc w2 [Value.int .i64 xh, .int .i64 xa, .int .i64 xt, .int .u64 xd, .int .u64 xp, .bool true] 73 (n := 6) rfl) rfl
    rwa [sz2] at this
  have tC : (w2.alloc (.cells [Value.int .i64 xh, .int .i64 xa, .int .i64 xt, .int .u64 xd, .int .u64 xp, .bool true].toArray 73)).there (w.heap.size + 1) 0 28 := rowIs.there ((HR5.out.of_block (tt2.block _ (by omega) (by omega))).alloc _) (by omega)
  have tD : (w2.alloc (.cells [Value.int .i64 xh, .int .i64 xa, .int .i64 xt, .int .u64 xd, .int .u64 xp, .bool true].toArray 73)).there (w.heap.size + 2) 0 6 := rowIs.there ((HR6.out.of_block (tt2.block _ (by omega) (by omega))).alloc _) (by omega)
  have rW : IsRow (w2.alloc (.cells [Value.int .i64 xh, .int .i64 xa, .int .i64 xt, .int .u64 xd, .int .u64 xp, .bool true].toArray 73)) g n cap f' := (HR1'.out.block (tt2.block g (by omega) (by omega))).alloc _
  have TW : Touch w (w2.alloc (.cells [Value.int .i64 xh, .int .i64 xa, .int .i64 xt, .int .u64 xd, .int .u64 xp, .bool true].toArray 73)) (fun k => k = g) := (((Touch.of_grown HG3.out).mono (S' := fun k => k = g) (fun k _ h => by simpa using h)).trans' (Touch.of_grown HG1.out) (fun k _ h => by simpa using h)).trans' (tt2.alloc _) (fun k hk h => absurd hk (by omega))
  have szA : (w2.alloc (.cells [Value.int .i64 xh, .int .i64 xa, .int .i64 xt, .int .u64 xd, .int .u64 xp, .bool true].toArray 73)).heap.size = w1.heap.size + 1 := by simp [sz2]
  rw [hw2]
  have HTW := hide TW
  have HRW := hide rW
  clear TW rW hw2
  obtain ⟨WA, hWA⟩ : ∃ W, (w2.alloc (.cells [Value.int .i64 xh, .int .i64 xa, .int .i64 xt, .int .u64 xd, .int .u64 xp, .bool true].toArray 73)) = W := ⟨_, rfl⟩
  rw [hWA] at rA rB tC tD szA HTW HRW
  have goA : (w2.alloc (.cells #[Value.int .i64 xh, .int .i64 xa, .int .i64 xt, .int .u64 xd, .int .u64 xp, .bool true] 73)) = WA := hWA
  simp only [goA]
  clear goA hWA
  refine RetN.region (ks := [(0, 121), (1, 122), (2, 123), (3, 124), (6, 6)]) (vals := fun i => match i with
      | 0 => .agg l1.toArray
      | 1 => .agg #[Value.int .i64 xh, .int .i64 xa, .int .i64 xt, .int .u64 xd, .int .u64 xp, .bool true]
      | 2 => .pointer (some ⟨w1.heap.size, 5, none⟩)
      | _ => .bool true) (C := w.heap.size + 1) (E := w.heap.size + 2) (iC := 4) (iE := 5) (lt := l1) (ls := [Value.int .i64 xh, .int .i64 xa, .int .i64 xt, .int .u64 xd, .int .u64 xp, .bool true]) (by kernel_rfl) ?g ?b rfl (by omega) (by decide) ?dd hl1i.out.2 (by simp [Value.oneCell']) (by rw [hl1i.out.1]; exact tC) tD ?kinds ?fin
  case g =>
    intro i o ho
    have hi : i < 7 := by have := (Array.getElem?_eq_some_iff.1 ho).1; simpa using this
    match i, hi with
    | 0, _ | 1, _ | 2, _ | 3, _ | 4, _ | 5, _ | 6, _ => injection ho with ho; subst ho; rfl
  case b =>
    intro i o ho
    have hi : i < 7 := by have := (Array.getElem?_eq_some_iff.1 ho).1; simpa using this
    match i, hi with
    | 0, _ | 1, _ | 2, _ | 3, _ | 4, _ | 5, _ | 6, _ => injection ho with ho; subst ho; simp [Region.binds]
  case dd =>
    intro k hk
    have hk' : k < 125 := by
      simp [RetN.D] at hk
      omega
    simpa using hk'
  case kinds =>
    intro i o ho
    have hi : i < 7 := by have := (Array.getElem?_eq_some_iff.1 ho).1; simpa using this
    match i, hi with
    | 0, _ => injection ho with ho; subst ho; exact .inl ⟨121, _, rfl, rfl, fun L a w' hI hd => ex_load_row rfl (hI.fix 2 (Reg.notD rfl)) (rangeAt_block rA (hI.tch.block _ (by omega) (by omega))) HD.out.1 HD.out.2.1 (by rw [hl1i.out.1]; exact size79)⟩
    | 1, _ => injection ho with ho; subst ho; exact .inl ⟨122, _, rfl, rfl, fun L a w' hI hd => ex_load_row rfl (hI.fix 11 (Reg.notD rfl)) (rangeAt_block rB (hI.tch.block _ (by omega) (by omega))) HD.out.2.2.1 HD.out.2.2.2 size46⟩
    | 2, _ => injection ho with ho; subst ho; exact .inl ⟨123, _, rfl, rfl, fun L a w' hI hd => ex_field rfl (hI.fix 11 (Reg.notD rfl)) (field46_5 w' _)⟩
    | 3, _ => injection ho with ho; subst ho; exact .inl ⟨124, _, rfl, rfl, fun L a w' hI hd => ex_load rfl (hI.pure 2 _ _ rfl (hd ⟨2, .data⟩ (by simp) rfl)) (agg4 w') (by have := (rangeAt_block rB (hI.tch.block _ (by omega) (by omega))) 5 _ rfl; simpa using this)⟩
    | 4, _ => injection ho with ho; subst ho; exact .inr (.inl ⟨rfl, rfl, _, _, _, rfl, (by rw [hl1i.out.1]; exact size79), fun L a w' hI hd => ⟨hI.fix 4 (Reg.notD rfl), (hI.pure 0 _ _ rfl (hd ⟨0, .data⟩ (by simp) rfl))⟩⟩)
    | 5, _ => injection ho with ho; subst ho; exact .inr (.inr ⟨rfl, rfl, _, _, _, rfl, size46, fun L a w' hI hd => ⟨hI.fix 5 (Reg.notD rfl), (hI.pure 1 _ _ rfl (hd ⟨1, .data⟩ (by simp) rfl))⟩⟩)
    | 6, _ => injection ho with ho; subst ho; exact .inl ⟨6, _, rfl, rfl, fun L a w' hI hd => ex_assign rfl (hI.pure 3 _ _ rfl (hd ⟨3, .data⟩ (by simp) rfl))⟩
  case fin =>
    intro L a' w' hI hall
    rename_i K2 hK2
    refine hK2 _ _ ?_
    have rC := hI.sC (hall 4 (by decide))
    have rD := hI.sE (hall 5 (by decide))
    have pC : a'.eval (.tmp 4) = .pointer (some ⟨w.heap.size + 1, 0, none⟩) := hI.fix 4 (Reg.notD rfl)
    have pD : a'.eval (.tmp 5) = .pointer (some ⟨w.heap.size + 2, 0, none⟩) := hI.fix 5 (Reg.notD rfl)
    have pe : a'.eval (.tmp 6) = .bool true := hI.pure 6 6 _ rfl (hall 6 (by decide))
    have tch := hI.tch
    have hdf : a'.defers = [] := hI.df
    have hT := run_loadVar_mid (P := Try.prog) w' (w.heap.size + 1) 0 _ l1 dT rC HD.out.1 HD.out.2.1 (by rw [hl1i.out.1]; exact size79)
    have hS := run_loadVar_mid (P := Try.prog) w' (w.heap.size + 2) 0 _ _ dS rD HD.out.2.2.1 HD.out.2.2.2 size46
    have hres := results_cct (Q := Try.prog) (fn := Try.f36) (tmps := a'.tmps) (t := 4) (t' := 5) (t'' := 6) (W := w') (by rfl) pC hT pD hS
    rw [show a'.tmps.getD 6 undef = .bool true from pe] at hres
    go_wp2
    refine bodyPost_ret (v := .tuple #[.agg l1.toArray, (⟨xh, xa, xt, xd, xp, true⟩ : Stp).val, .bool true]) hres hdf ⟨rfl, HRW.out.block (tch.block g HRW.out.lt (by omega)), ?_⟩
    have := HTW.out.trans' tch (fun k hk h => absurd hk (by omega))
    exact ⟨this.os, this.tape, this.output, this.size, fun k hk hn => this.block k hk (by simpa using hn)⟩

set_option maxHeartbeats 4000000 in
theorem rcas_goes {w : World} {g n cap : Nat} {f f' : Nat → Int} {xh xa xt xd xp : Int} {s0 s1 s2 s3 s4 s5 hand a b c hh r val st : Int} {ok : Bool} (hr : IsRow w g n cap f) (h1 : 1 ≤ s5) (h2 : s5 ≤ 64) (ha : 0 ≤ a) (ha2 : a < s5) (hw : 0 ≤ hh ∧ hh ≤ 18446744073709551615) (h0 : ¬ st = 0) (hx : stepOf n f ⟨hand, 5, s5 + a, r, hh, true⟩ = ⟨xh, xa, xt, xd, xp, false⟩) (hf' : wordsOf n f ⟨hand, 5, s5 + a, r, hh, true⟩ = f') :
    Calls Try.prog 36 #[.agg (tk ⟨s0, s1, s2, s3, s4, s5⟩ hand ⟨3, a, b, c, hh⟩ st ⟨r, 0, 0, 0, 0, 0, 0, 0⟩ ⟨ok, val⟩).toArray, .slice (some ⟨g, 0, none⟩) n cap] w fun e w' =>
      e = .returned (.tuple #[.agg (tk ⟨s0, s1, s2, s3, s4, s5⟩ hand ⟨3, a, b, c, hh⟩ 0 ⟨r, 0, 0, 0, 0, 0, 0, 0⟩ ⟨ok, val⟩).toArray, (⟨xh, xa, xt, xd, xp, false⟩ : Stp).val, .bool false]) ∧ IsRow w' g n cap f' ∧ w.grownBy w' (some g) := by
  have DO := hide (fun (w' : World) (hr' : IsRow w' g n cap f) => ref_do (s := ⟨hand, 5, s5 + a, r, hh, true⟩) hr' hw ⟨by show (1 : Int) ≤ 5; decide, by show (5 : Int) ≤ 5; decide⟩)
  have HX := hide hx
  have HF := hide hf'
  have lg := hr.lt
  obtain ⟨l0, hl0⟩ : ∃ l, tk ⟨s0, s1, s2, s3, s4, s5⟩ hand ⟨3, a, b, c, hh⟩ st ⟨r, 0, 0, 0, 0, 0, 0, 0⟩ ⟨ok, val⟩ = l := ⟨_, rfl⟩
  have hl0' : l0.length = 28 := by rw [← hl0]; rfl
  have hset : (l0.set 12 (.int .i64 0)) = tk ⟨s0, s1, s2, s3, s4, s5⟩ hand ⟨3, a, b, c, hh⟩ 0 ⟨r, 0, 0, 0, 0, 0, 0, 0⟩ ⟨ok, val⟩ := by rw [← hl0]; rfl
  obtain ⟨l1, hl1⟩ : ∃ l, tk ⟨s0, s1, s2, s3, s4, s5⟩ hand ⟨3, a, b, c, hh⟩ 0 ⟨r, 0, 0, 0, 0, 0, 0, 0⟩ ⟨ok, val⟩ = l := ⟨_, rfl⟩
  rw [hl0, hl1]
  rw [hl1] at hset
  have hl1i := hide (show IsTk l1 from by rw [← hl1]; exact tk_is _ _ _ _ _ _)
  obtain ⟨W3, hW3⟩ : ∃ W3, ((w.alloc (.cells l0.toArray 62)).alloc (.cells tk0.toArray 62)).alloc (.cells [Value.int .i64 0, .int .i64 0, .int .i64 0, .int .u64 0, .int .u64 0, .bool false].toArray 73) = W3 := ⟨_, rfl⟩
  have sz3 : W3.heap.size = w.heap.size + 3 := by rw [← hW3]; simp
  have R0 : W3.rowIs w.heap.size 62 28 (lrow l0) := by rw [← hW3]; exact ((rowL_alloc w l0 _ hl0').alloc _).alloc _
  have R1 : W3.rowIs (w.heap.size + 1) 62 28 (lrow tk0) := by
    rw [← hW3]
    have := (rowL_alloc (w.alloc (.cells l0.toArray 62)) tk0 62 (n := 28) rfl).alloc (.cells [Value.int .i64 0, .int .i64 0, .int .i64 0, .int .u64 0, .int .u64 0, .bool false].toArray 73)
    rwa [World.size_alloc] at this
  have R2 : W3.rowIs (w.heap.size + 2) 73 6 (lrow [Value.int .i64 0, .int .i64 0, .int .i64 0, .int .u64 0, .int .u64 0, .bool false]) := by
    rw [← hW3]
    have := rowL_alloc ((w.alloc (.cells l0.toArray 62)).alloc (.cells tk0.toArray 62)) [Value.int .i64 0, .int .i64 0, .int .i64 0, .int .u64 0, .int .u64 0, .bool false] 73 (n := 6) rfl
    rwa [World.size_alloc, World.size_alloc] at this
  have G3 : w.grownBy W3 (some g) := by rw [← hW3]; exact grown_alloc (grown_alloc (grown_alloc (grown_refl _ _) _) _) _
  have HR3 := hide (show IsRow W3 g n cap f from hr.grown (grown_none (by rw [← hW3]; exact grown_alloc (grown_alloc (grown_alloc (grown_refl _ _) _) _) _) none) (by simp))
  have cell : ∀ i v, l0[i]? = some v → W3.cell? ⟨w.heap.size, i, none⟩ = some v := fun i v hv => by rw [R0.cell (i := i) (by have := (List.getElem?_eq_some_iff.1 hv).1; omega), lrow_of hv]
  have g5 : l0[5]? = some (.int .i64 s5) := by rw [← hl0]; rfl
  have g6 : l0[6]? = some (.int .i64 hand) := by rw [← hl0]; rfl
  have g7 : l0[7]? = some (.int .i64 3) := by rw [← hl0]; rfl
  have g8 : l0[8]? = some (.int .i64 a) := by rw [← hl0]; rfl
  have g11 : l0[11]? = some (.int .u64 hh) := by rw [← hl0]; rfl
  have g12 : l0[12]? = some (.int .i64 st) := by rw [← hl0]; rfl
  have g13 : l0[13]? = some (.int .u64 r) := by rw [← hl0]; rfl
  have g22 : l0[22]? = some (.bool ok) := by rw [← hl0]; rfl
  have g23 : l0[23]? = some (.int .u64 val) := by rw [← hl0]; rfl
  have c5 := cell 5 _ g5
  have c6 := cell 6 _ g6
  have c7 := cell 7 _ g7
  have c8 := cell 8 _ g8
  have c11 := cell 11 _ g11
  have c12 := cell 12 _ g12
  have c13 := cell 13 _ g13
  have c22 := cell 22 _ g22
  have c23 := cell 23 _ g23
  have G5 := hide g5
  have G6 := hide g6
  have G7 := hide g7
  have G8 := hide g8
  have G11 := hide g11
  have G12 := hide g12
  have G13 := hide g13
  have G22 := hide g22
  have G23 := hide g23
  obtain ⟨dT, hdT1, hdT2⟩ := row79
  obtain ⟨dS, hdS1, hdS2⟩ := row46
  have HD := hide (And.intro hdT1 (And.intro hdT2 (And.intro hdS1 hdS2)))
  have HR0 := hide R0
  have HR1 := hide R1
  have HR2 := hide R2
  have HG3 := hide G3
  have HSET := hide hset
  have HL0 := hide hl0'
  have hwr : wrap64 (s5 + a) = s5 + a := by unfold wrap64; omega
  clear hx hf' hr R0 R1 R2 G3 cell hset hl0' hl0 hl1 hdT1 hdT2 hdS1 hdS2 g5 g6 g7 g8 g11 g12 g13 g22 g23
  simp only [tk0] at hW3
  go_enter Try.func36, Try.ntmps36
  go_wp2_with (go_at_call 47; refine (DO.out _ HR3.out).mono ?_; rintro e w1 ⟨rfl, hr1, hg1⟩; rw [HX.out]; rw [HF.out] at hr1; simp only [Stp.val]; have sz1 := hg1.size; have HR4 := hide (HR0.out.of_block (hg1.block w.heap.size (by omega) (by simp; omega))); have HR5 := hide (HR1.out.of_block (hg1.block (w.heap.size + 1) (by omega) (by simp; omega))); have HR6 := hide (HR2.out.of_block (hg1.block (w.heap.size + 2) (by omega) (by simp; omega))); have HR1' := hide hr1; have HG1 := hide hg1; have e5 : w1.cell? ⟨w.heap.size, 5, none⟩ = some (.int .i64 s5) := (by rw [HR4.out.cell (i := 5) (by omega), lrow_of G5.out]); have f5 := HR4.out.frozen 5; have e6 : w1.cell? ⟨w.heap.size, 6, none⟩ = some (.int .i64 hand) := (by rw [HR4.out.cell (i := 6) (by omega), lrow_of G6.out]); have f6 := HR4.out.frozen 6; have e7 : w1.cell? ⟨w.heap.size, 7, none⟩ = some (.int .i64 3) := (by rw [HR4.out.cell (i := 7) (by omega), lrow_of G7.out]); have f7 := HR4.out.frozen 7; have e8 : w1.cell? ⟨w.heap.size, 8, none⟩ = some (.int .i64 a) := (by rw [HR4.out.cell (i := 8) (by omega), lrow_of G8.out]); have f8 := HR4.out.frozen 8; have e11 : w1.cell? ⟨w.heap.size, 11, none⟩ = some (.int .u64 hh) := (by rw [HR4.out.cell (i := 11) (by omega), lrow_of G11.out]); have f11 := HR4.out.frozen 11; have e12 : w1.cell? ⟨w.heap.size, 12, none⟩ = some (.int .i64 st) := (by rw [HR4.out.cell (i := 12) (by omega), lrow_of G12.out]); have f12 := HR4.out.frozen 12; have e13 : w1.cell? ⟨w.heap.size, 13, none⟩ = some (.int .u64 r) := (by rw [HR4.out.cell (i := 13) (by omega), lrow_of G13.out]); have f13 := HR4.out.frozen 13; have e22 : w1.cell? ⟨w.heap.size, 22, none⟩ = some (.bool ok) := (by rw [HR4.out.cell (i := 22) (by omega), lrow_of G22.out]); have f22 := HR4.out.frozen 22; have e23 : w1.cell? ⟨w.heap.size, 23, none⟩ = some (.int .u64 val) := (by rw [HR4.out.cell (i := 23) (by omega), lrow_of G23.out]); have f23 := HR4.out.frozen 23; have l1w : w.heap.size < w1.heap.size := (by omega); clear hr1 hg1 c5 c6 c7 c8 c11 c12 c13 c22 c23)
  obtain ⟨w2, hw2⟩ : ∃ w2, (w1.setCell ⟨w.heap.size, 12, none⟩ (.int .i64 0)) = w2 := ⟨_, rfl⟩
  have sz2 : w2.heap.size = w1.heap.size := by rw [← hw2]; simp
  have tt2 : Touch w1 w2 (fun k => k = w.heap.size) := by rw [← hw2]; exact (Touch.setCell (S := fun k => k = w.heap.size) (Touch.refl w1 _) ⟨w.heap.size, 12, none⟩ (.inl rfl) _)
  have rA : (w2.alloc (.cells [Value.int .i64 xh, .int .i64 xa, .int .i64 xt, .int .u64 xd, .int .u64 xp, .bool false].toArray 73)).rangeAt w.heap.size 0 l1 := by
    have := rowIs.range (rowIs.setL HR4.out (i := 12) (by simp [HL0.out]) (.int .i64 0)) (by simp [HL0.out])
    rw [HSET.out, hw2] at this
    exact World.rangeAt_alloc this _
  have rB : (w2.alloc (.cells [Value.int .i64 xh, .int .i64 xa, .int .i64 xt, .int .u64 xd, .int .u64 xp, .bool false].toArray 73)).rangeAt w1.heap.size 0 [Value.int .i64 xh, .int .i64 xa, .int .i64 xt, .int .u64 xd, .int .u64 xp, .bool false] := by
    have := rowIs.range (rowL_alloc w2 [Value.int .i64 xh, .int .i64 xa, .int .i64 xt, .int .u64 xd, .int .u64 xp, .bool false] 73 (n := 6) rfl) rfl
    rwa [sz2] at this
  have tC : (w2.alloc (.cells [Value.int .i64 xh, .int .i64 xa, .int .i64 xt, .int .u64 xd, .int .u64 xp, .bool false].toArray 73)).there (w.heap.size + 1) 0 28 := rowIs.there ((HR5.out.of_block (tt2.block _ (by omega) (by omega))).alloc _) (by omega)
  have tD : (w2.alloc (.cells [Value.int .i64 xh, .int .i64 xa, .int .i64 xt, .int .u64 xd, .int .u64 xp, .bool false].toArray 73)).there (w.heap.size + 2) 0 6 := rowIs.there ((HR6.out.of_block (tt2.block _ (by omega) (by omega))).alloc _) (by omega)
  have rW : IsRow (w2.alloc (.cells [Value.int .i64 xh, .int .i64 xa, .int .i64 xt, .int .u64 xd, .int .u64 xp, .bool false].toArray 73)) g n cap f' := (HR1'.out.block (tt2.block g (by omega) (by omega))).alloc _
  have TW : Touch w (w2.alloc (.cells [Value.int .i64 xh, .int .i64 xa, .int .i64 xt, .int .u64 xd, .int .u64 xp, .bool false].toArray 73)) (fun k => k = g) := (((Touch.of_grown HG3.out).mono (S' := fun k => k = g) (fun k _ h => by simpa using h)).trans' (Touch.of_grown HG1.out) (fun k _ h => by simpa using h)).trans' (tt2.alloc _) (fun k hk h => absurd hk (by omega))
  have szA : (w2.alloc (.cells [Value.int .i64 xh, .int .i64 xa, .int .i64 xt, .int .u64 xd, .int .u64 xp, .bool false].toArray 73)).heap.size = w1.heap.size + 1 := by simp [sz2]
  rw [hw2]
  have HTW := hide TW
  have HRW := hide rW
  clear TW rW hw2
  obtain ⟨WA, hWA⟩ : ∃ W, (w2.alloc (.cells [Value.int .i64 xh, .int .i64 xa, .int .i64 xt, .int .u64 xd, .int .u64 xp, .bool false].toArray 73)) = W := ⟨_, rfl⟩
  rw [hWA] at rA rB tC tD szA HTW HRW
  have goA : (w2.alloc (.cells #[Value.int .i64 xh, .int .i64 xa, .int .i64 xt, .int .u64 xd, .int .u64 xp, .bool false] 73)) = WA := hWA
  simp only [goA]
  clear goA hWA
  refine RetN.region (ks := [(0, 121), (1, 122), (2, 123), (3, 124), (6, 6)]) (vals := fun i => match i with
      | 0 => .agg l1.toArray
      | 1 => .agg #[Value.int .i64 xh, .int .i64 xa, .int .i64 xt, .int .u64 xd, .int .u64 xp, .bool false]
      | 2 => .pointer (some ⟨w1.heap.size, 5, none⟩)
      | _ => .bool false) (C := w.heap.size + 1) (E := w.heap.size + 2) (iC := 4) (iE := 5) (lt := l1) (ls := [Value.int .i64 xh, .int .i64 xa, .int .i64 xt, .int .u64 xd, .int .u64 xp, .bool false]) (by kernel_rfl) ?g ?b rfl (by omega) (by decide) ?dd hl1i.out.2 (by simp [Value.oneCell']) (by rw [hl1i.out.1]; exact tC) tD ?kinds ?fin
  case g =>
    intro i o ho
    have hi : i < 7 := by have := (Array.getElem?_eq_some_iff.1 ho).1; simpa using this
    match i, hi with
    | 0, _ | 1, _ | 2, _ | 3, _ | 4, _ | 5, _ | 6, _ => injection ho with ho; subst ho; rfl
  case b =>
    intro i o ho
    have hi : i < 7 := by have := (Array.getElem?_eq_some_iff.1 ho).1; simpa using this
    match i, hi with
    | 0, _ | 1, _ | 2, _ | 3, _ | 4, _ | 5, _ | 6, _ => injection ho with ho; subst ho; simp [Region.binds]
  case dd =>
    intro k hk
    have hk' : k < 125 := by
      simp [RetN.D] at hk
      omega
    simpa using hk'
  case kinds =>
    intro i o ho
    have hi : i < 7 := by have := (Array.getElem?_eq_some_iff.1 ho).1; simpa using this
    match i, hi with
    | 0, _ => injection ho with ho; subst ho; exact .inl ⟨121, _, rfl, rfl, fun L a w' hI hd => ex_load_row rfl (hI.fix 2 (Reg.notD rfl)) (rangeAt_block rA (hI.tch.block _ (by omega) (by omega))) HD.out.1 HD.out.2.1 (by rw [hl1i.out.1]; exact size79)⟩
    | 1, _ => injection ho with ho; subst ho; exact .inl ⟨122, _, rfl, rfl, fun L a w' hI hd => ex_load_row rfl (hI.fix 11 (Reg.notD rfl)) (rangeAt_block rB (hI.tch.block _ (by omega) (by omega))) HD.out.2.2.1 HD.out.2.2.2 size46⟩
    | 2, _ => injection ho with ho; subst ho; exact .inl ⟨123, _, rfl, rfl, fun L a w' hI hd => ex_field rfl (hI.fix 11 (Reg.notD rfl)) (field46_5 w' _)⟩
    | 3, _ => injection ho with ho; subst ho; exact .inl ⟨124, _, rfl, rfl, fun L a w' hI hd => ex_load rfl (hI.pure 2 _ _ rfl (hd ⟨2, .data⟩ (by simp) rfl)) (agg4 w') (by have := (rangeAt_block rB (hI.tch.block _ (by omega) (by omega))) 5 _ rfl; simpa using this)⟩
    | 4, _ => injection ho with ho; subst ho; exact .inr (.inl ⟨rfl, rfl, _, _, _, rfl, (by rw [hl1i.out.1]; exact size79), fun L a w' hI hd => ⟨hI.fix 4 (Reg.notD rfl), (hI.pure 0 _ _ rfl (hd ⟨0, .data⟩ (by simp) rfl))⟩⟩)
    | 5, _ => injection ho with ho; subst ho; exact .inr (.inr ⟨rfl, rfl, _, _, _, rfl, size46, fun L a w' hI hd => ⟨hI.fix 5 (Reg.notD rfl), (hI.pure 1 _ _ rfl (hd ⟨1, .data⟩ (by simp) rfl))⟩⟩)
    | 6, _ => injection ho with ho; subst ho; exact .inl ⟨6, _, rfl, rfl, fun L a w' hI hd => ex_assign rfl (hI.pure 3 _ _ rfl (hd ⟨3, .data⟩ (by simp) rfl))⟩
  case fin =>
    intro L a' w' hI hall
    rename_i K2 hK2
    refine hK2 _ _ ?_
    have rC := hI.sC (hall 4 (by decide))
    have rD := hI.sE (hall 5 (by decide))
    have pC : a'.eval (.tmp 4) = .pointer (some ⟨w.heap.size + 1, 0, none⟩) := hI.fix 4 (Reg.notD rfl)
    have pD : a'.eval (.tmp 5) = .pointer (some ⟨w.heap.size + 2, 0, none⟩) := hI.fix 5 (Reg.notD rfl)
    have pe : a'.eval (.tmp 6) = .bool false := hI.pure 6 6 _ rfl (hall 6 (by decide))
    have tch := hI.tch
    have hdf : a'.defers = [] := hI.df
    have hT := run_loadVar_mid (P := Try.prog) w' (w.heap.size + 1) 0 _ l1 dT rC HD.out.1 HD.out.2.1 (by rw [hl1i.out.1]; exact size79)
    have hS := run_loadVar_mid (P := Try.prog) w' (w.heap.size + 2) 0 _ _ dS rD HD.out.2.2.1 HD.out.2.2.2 size46
    have hres := results_cct (Q := Try.prog) (fn := Try.f36) (tmps := a'.tmps) (t := 4) (t' := 5) (t'' := 6) (W := w') (by rfl) pC hT pD hS
    rw [show a'.tmps.getD 6 undef = .bool false from pe] at hres
    go_wp2
    refine bodyPost_ret (v := .tuple #[.agg l1.toArray, (⟨xh, xa, xt, xd, xp, false⟩ : Stp).val, .bool false]) hres hdf ⟨rfl, HRW.out.block (tch.block g HRW.out.lt (by omega)), ?_⟩
    have := HTW.out.trans' tch (fun k hk h => absurd hk (by omega))
    exact ⟨this.os, this.tape, this.output, this.size, fun k hk hn => this.block k hk (by simpa using hn)⟩

end Tally
end Go.Proofs.Ytpghfebnggoacaa

/-
  The tally's reference: its tasks are those of the kind.
-/
namespace Go.Proofs.Ytpghfebnggoacaa
open Go.RowKit
set_option linter.unusedVariables false
set_option linter.unusedSimpArgs false
set_option maxRecDepth 20000
namespace Tally

def repT (sh : Shp) : List Value → TaS → Prop := fun cs s => cs = tk sh s.hand s.j s.st ⟨s.sn, 0, 0, 0, 0, 0, 0, 0⟩ s.told ∧ (kTally sh.f).fine s.j

theorem rkind {sh : Shp} (h1 : 1 ≤ sh.f) (h2 : sh.f ≤ 64) : RKind (kTally sh.f) (repT sh) sh 34 36 := by
  obtain ⟨s0, s1, s2, s3, s4, s5⟩ := sh
  simp only at h1 h2
  refine ⟨fun k j hk0 hk8 hw => ?_, fun cs s hcs hrep n f hf => ?_⟩
  · obtain ⟨kind, a, b, c, hh⟩ := j
    by_cases he : terr s5 ⟨kind, a, b, c, hh⟩ = 0
    · have hc : (¬ kind < 1 ∧ ¬ 3 < kind ∧ ¬ kind = 2 ∧ ¬ a < 0 ∧ ¬ s5 ≤ a) ∨ kind = 2 := by
        rcases fine_cases (room := s5) ⟨hw, he⟩ with ⟨hk, ha, ha2⟩ | hk | ⟨hk, ha, ha2⟩
        · simp only at hk ha ha2; omega
        · exact .inr hk
        · simp only at hk ha ha2; omega
      refine ⟨tk ⟨s0, s1, s2, s3, s4, s5⟩ k ⟨kind, a, b, c, hh⟩ 0 .zero ⟨false, 0⟩, tk_is _ _ _ _ _ _, fun _ => ⟨rfl, hw, he⟩, fun w => ?_⟩
      rw [show (kTally s5).err ⟨kind, a, b, c, hh⟩ = 0 from he]
      exact rstart_ok w s0 s1 s2 s3 s4 s5 k kind a b c hh h1 h2 hc
    · by_cases c1 : kind < 1 ∨ 3 < kind
      · refine ⟨tk0, tk0_is, fun h => absurd h he, fun w => ?_⟩
        rw [show (kTally s5).err ⟨kind, a, b, c, hh⟩ = 200 from by show terr s5 _ = 200; unfold terr; rw [if_pos c1]]
        exact rstart_kind w s0 s1 s2 s3 s4 s5 k kind a b c hh h1 h2 (by omega)
      · have c2 : ¬ kind = 2 := fun h => he (by unfold terr; rw [if_neg c1, if_pos h])
        have c3 : a < 0 ∨ s5 ≤ a := by
          rcases Classical.em (a < 0 ∨ s5 ≤ a) with h | h
          · exact h
          · exact absurd (by unfold terr; rw [if_neg c1, if_neg c2, if_neg h]) he
        refine ⟨tk0, tk0_is, fun h => absurd h he, fun w => ?_⟩
        rw [show (kTally s5).err ⟨kind, a, b, c, hh⟩ = 2 from by show terr s5 _ = 2; unfold terr; rw [if_neg c1, if_neg c2, if_pos c3]]
        exact rstart_arg w s0 s1 s2 s3 s4 s5 k kind a b c hh h1 h2 (by omega) (by omega) c2 (by omega)
  · obtain ⟨hand, ⟨kind, a, b, c, hh⟩, st, sn, ⟨ok, val⟩⟩ := s
    obtain ⟨rfl, hw, he⟩ := hrep
    simp only at hw he
    have hw' : 0 ≤ hh ∧ hh ≤ 18446744073709551615 := hw
    obtain ⟨x, hx⟩ : ∃ x, stepOf n f ((kTally s5).req ⟨hand, ⟨kind, a, b, c, hh⟩, st, sn, ⟨ok, val⟩⟩) = x := ⟨_, rfl⟩
    obtain ⟨f', hf'⟩ : ∃ f', wordsOf n f ((kTally s5).req ⟨hand, ⟨kind, a, b, c, hh⟩, st, sn, ⟨ok, val⟩⟩) = f' := ⟨_, rfl⟩
    rw [hx, hf']
    replace hx : stepOf n f (treq s5 ⟨hand, ⟨kind, a, b, c, hh⟩, st, sn, ⟨ok, val⟩⟩) = x := hx
    replace hf' : wordsOf n f (treq s5 ⟨hand, ⟨kind, a, b, c, hh⟩, st, sn, ⟨ok, val⟩⟩) = f' := hf'
    show ∃ cs', IsTk cs' ∧ (¬ tends s5 ⟨hand, ⟨kind, a, b, c, hh⟩, st, sn, ⟨ok, val⟩⟩ x = true → repT ⟨s0, s1, s2, s3, s4, s5⟩ cs' (tnext s5 ⟨hand, ⟨kind, a, b, c, hh⟩, st, sn, ⟨ok, val⟩⟩ x)) ∧
      (tends s5 ⟨hand, ⟨kind, a, b, c, hh⟩, st, sn, ⟨ok, val⟩⟩ x = true → cs'[22]? = some (.bool (tnext s5 ⟨hand, ⟨kind, a, b, c, hh⟩, st, sn, ⟨ok, val⟩⟩ x).told.ok) ∧ cs'[23]? = some (.int .u64 (tnext s5 ⟨hand, ⟨kind, a, b, c, hh⟩, st, sn, ⟨ok, val⟩⟩ x).told.val)) ∧ (∀ q, q < 4 → cs'[24 + q]? = some (.int .u64 0)) ∧
      ∀ (w : World) (g cap : Nat), IsRow w g n cap f → Calls Try.prog 36 #[.agg (tk ⟨s0, s1, s2, s3, s4, s5⟩ hand ⟨kind, a, b, c, hh⟩ st ⟨sn, 0, 0, 0, 0, 0, 0, 0⟩ ⟨ok, val⟩).toArray, .slice (some ⟨g, 0, none⟩) n cap] w fun e w' => e = .returned (.tuple #[.agg cs'.toArray, x.val, .bool (tends s5 ⟨hand, ⟨kind, a, b, c, hh⟩, st, sn, ⟨ok, val⟩⟩ x)]) ∧ IsRow w' g n cap f' ∧ w.grownBy w' (some g)
    rcases fine_cases (room := s5) ⟨hw, he⟩ with ⟨hk, ha, ha2⟩ | hk | ⟨hk, ha, ha2⟩
    · obtain rfl : kind = 1 := hk
      have e4 : treq s5 ⟨hand, ⟨1, a, b, c, hh⟩, st, sn, ⟨ok, val⟩⟩ = ⟨hand, 4, a, 0, hh, true⟩ := by simp [treq]
      have e5 : tends s5 ⟨hand, ⟨1, a, b, c, hh⟩, st, sn, ⟨ok, val⟩⟩ x = true := by simp [tends]
      have e7 : tnext s5 ⟨hand, ⟨1, a, b, c, hh⟩, st, sn, ⟨ok, val⟩⟩ x = ⟨hand, ⟨1, a, b, c, hh⟩, st, sn, ⟨true, x.put⟩⟩ := by simp [tnext]
      rw [e4] at hx hf'
      rw [e5, e7]
      exact ⟨_, tk_is _ _ _ _ _ _, fun h => absurd rfl h, fun _ => tk_ans _ _ _ _ _ _, tk_kept _ _ _ _ _ _, fun w g cap hr => rcount hr hw' hx hf'⟩
    · obtain rfl : kind = 2 := hk
      have e4 : treq s5 ⟨hand, ⟨2, a, b, c, hh⟩, st, sn, ⟨ok, val⟩⟩ = ⟨hand, 1, st, 0, 0, true⟩ := by simp [treq]
      rw [e4] at hx hf'
      by_cases hlt : wrap64 (st + 1) < s5
      · have e5 : tends s5 ⟨hand, ⟨2, a, b, c, hh⟩, st, sn, ⟨ok, val⟩⟩ x = false := by simp [tends, hlt]
        have e7 : tnext s5 ⟨hand, ⟨2, a, b, c, hh⟩, st, sn, ⟨ok, val⟩⟩ x = ⟨hand, ⟨2, a, b, c, hh⟩, wrap64 (st + 1), (sn + x.had) % 18446744073709551616, ⟨ok, val⟩⟩ := by simp [tnext, hlt]
        rw [e5, e7]
        exact ⟨_, tk_is _ _ _ _ _ _, fun _ => ⟨rfl, hw, he⟩, fun h => absurd h (by decide), tk_kept _ _ _ _ _ _, fun w g cap hr => rsum_goes hr hlt hx hf'⟩
      · have e5 : tends s5 ⟨hand, ⟨2, a, b, c, hh⟩, st, sn, ⟨ok, val⟩⟩ x = true := by simp [tends]; omega
        have e7 : tnext s5 ⟨hand, ⟨2, a, b, c, hh⟩, st, sn, ⟨ok, val⟩⟩ x = ⟨hand, ⟨2, a, b, c, hh⟩, wrap64 (st + 1), (sn + x.had) % 18446744073709551616, ⟨true, (sn + x.had) % 18446744073709551616⟩⟩ := by simp [tnext, hlt]
        rw [e5, e7]
        exact ⟨_, tk_is _ _ _ _ _ _, fun h => absurd rfl h, fun _ => tk_ans _ _ _ _ _ _, tk_kept _ _ _ _ _ _, fun w g cap hr => rsum_ends hr hlt hx hf'⟩
    · obtain rfl : kind = 3 := hk
      simp only at ha ha2
      by_cases h0 : st = 0
      · subst h0
        have e4 : treq s5 ⟨hand, ⟨3, a, b, c, hh⟩, 0, sn, ⟨ok, val⟩⟩ = ⟨hand, 1, s5 + a, 0, 0, true⟩ := by simp [treq]
        rw [e4] at hx hf'
        by_cases hge : hh ≤ x.had
        · have e5 : tends s5 ⟨hand, ⟨3, a, b, c, hh⟩, 0, sn, ⟨ok, val⟩⟩ x = true := by simp [tends, hge]
          have e7 : tnext s5 ⟨hand, ⟨3, a, b, c, hh⟩, 0, sn, ⟨ok, val⟩⟩ x = ⟨hand, ⟨3, a, b, c, hh⟩, 0, sn, ⟨false, x.had⟩⟩ := by simp [tnext, hge]
          rw [e5, e7]
          exact ⟨_, tk_is _ _ _ _ _ _, fun h => absurd rfl h, fun _ => tk_ans _ _ _ _ _ _, tk_kept _ _ _ _ _ _, fun w g cap hr => rlook_ends hr h1 h2 ha ha2 hge hx hf'⟩
        · have e5 : tends s5 ⟨hand, ⟨3, a, b, c, hh⟩, 0, sn, ⟨ok, val⟩⟩ x = false := by simp [tends]; omega
          have e7 : tnext s5 ⟨hand, ⟨3, a, b, c, hh⟩, 0, sn, ⟨ok, val⟩⟩ x = ⟨hand, ⟨3, a, b, c, hh⟩, 1, x.had, ⟨ok, val⟩⟩ := by simp [tnext, hge]
          rw [e5, e7]
          exact ⟨_, tk_is _ _ _ _ _ _, fun _ => ⟨rfl, hw, he⟩, fun h => absurd h (by decide), tk_kept _ _ _ _ _ _, fun w g cap hr => rlook_goes hr h1 h2 ha ha2 hge hx hf'⟩
      · have e4 : treq s5 ⟨hand, ⟨3, a, b, c, hh⟩, st, sn, ⟨ok, val⟩⟩ = ⟨hand, 5, s5 + a, sn, hh, true⟩ := by simp [treq, h0]
        rw [e4] at hx hf'
        obtain ⟨xh, xa, xt, xd, xp, xo⟩ := x
        have e5 : tends s5 ⟨hand, ⟨3, a, b, c, hh⟩, st, sn, ⟨ok, val⟩⟩ ⟨xh, xa, xt, xd, xp, xo⟩ = xo := by simp [tends, h0]
        rw [e5]
        cases xo with
        | true =>
          have e7 : tnext s5 ⟨hand, ⟨3, a, b, c, hh⟩, st, sn, ⟨ok, val⟩⟩ ⟨xh, xa, xt, xd, xp, true⟩ = ⟨hand, ⟨3, a, b, c, hh⟩, st, sn, ⟨true, hh⟩⟩ := by simp [tnext, h0]
          rw [e7]
          exact ⟨_, tk_is _ _ _ _ _ _, fun h => absurd rfl h, fun _ => tk_ans _ _ _ _ _ _, tk_kept _ _ _ _ _ _, fun w g cap hr => rcas_ends hr h1 h2 ha ha2 hw' h0 hx hf'⟩
        | false =>
          have e7 : tnext s5 ⟨hand, ⟨3, a, b, c, hh⟩, st, sn, ⟨ok, val⟩⟩ ⟨xh, xa, xt, xd, xp, false⟩ = ⟨hand, ⟨3, a, b, c, hh⟩, 0, sn, ⟨ok, val⟩⟩ := by simp [tnext, h0]
          rw [e7]
          exact ⟨_, tk_is _ _ _ _ _ _, fun _ => ⟨rfl, hw, he⟩, fun h => absurd h (by decide), tk_kept _ _ _ _ _ _, fun w g cap hr => rcas_goes hr h1 h2 ha ha2 hw' h0 hx hf'⟩
end Tally
end Go.Proofs.Ytpghfebnggoacaa

/-
  The statement's own reference of tasks of several steps: wrong.
-/
namespace Go.Proofs.Ytpghfebnggoacaa
namespace L5
open Go.RowKit
set_option linter.unusedVariables false
set_option linter.unusedSimpArgs false
set_option linter.unnecessarySimpa false
set_option maxRecDepth 20000

variable {K : Kd} {rep : List Value → K.σ → Prop} {sh : Shp} {w : World} {aoh aos : Option Addr} {caph caps : Nat} {P : Par} {most : Int}

theorem build77 {ev : Operand → Value} {o : Oper} {w : World} (ho : o.op = .build 60 #[]) : (execOp ev o).run Try.prog w = .ok (.value (.agg #[.int .u64 0, .int .u64 0, .int .u64 0, .int .u64 0])) w := by
  simp [execOp, ho, go_sem]
theorem callStartW (args : Array Value) (w : World) : (callFunc 34 args).run Try.prog w = .ok (.enter 34 args) w := by
  simp [go_sem]
set_option maxHeartbeats 8000000 in
theorem wrong_fine (RK : RKind K rep sh 34 36) (hjw : ∀ h, h < P.nh → ∀ j, j < P.jn h → (P.jb h j).wf) (SH : SeesH w w.heap.size aoh P.nh P.jn P.jb) (hl : ¬ LongHands P.nh P.jn) (hs : P.ns ≤ 65536) (hm0 : 0 ≤ most) (hm : most ≤ 65536) :
    Calls Try.prog 59 #[sh.val, .slice aoh P.nh caph, .slice aos P.ns caps, .int .i64 most] w fun e w' => Below w.heap.size w w' ∧ ((AllOk K P ∧ e = .returned (.int .i64 0)) ∨ ∃ er, FirstErr K P er ∧ e = .returned (.int .i64 er)) := by
  have hnh : P.nh ≤ 8 := by rcases Nat.lt_or_ge 8 P.nh with l | l; exact absurd (.inl l) hl; exact l
  have hjn : ∀ i, i < P.nh → P.jn i ≤ 256 := fun i hi => by rcases Nat.lt_or_ge 256 (P.jn i) with l | l; exact absurd (.inr ⟨i, hi, l⟩) hl; exact l
  have HSH := hide SH
  have HRK := hide RK
  have HJW := hide hjw
  have HL := hide hl
  have HJN := hide hjn
  obtain ⟨W1, hW1⟩ : ∃ W1, w.alloc (.cells #[.int .i64 sh.a, .int .i64 sh.b, .int .i64 sh.c, .int .i64 sh.d, .int .i64 sh.e, .int .i64 sh.f] 23) = W1 := ⟨_, rfl⟩
  have b1 : Below w.heap.size w W1 := by rw [← hW1]; exact (Below.refl _ w).alloc (Nat.le_refl _) _
  have sz1 : W1.heap.size = w.heap.size + 1 := by rw [← hW1]; simp
  have R1 := hide (show W1.rangeAt w.heap.size 0 [Value.int .i64 sh.a, .int .i64 sh.b, .int .i64 sh.c, .int .i64 sh.d, .int .i64 sh.e, .int .i64 sh.f] from by rw [← hW1]; exact rowIs.range (rowL_alloc w [Value.int .i64 sh.a, .int .i64 sh.b, .int .i64 sh.c, .int .i64 sh.d, .int .i64 sh.e, .int .i64 sh.f] 23 (n := 6) rfl) rfl)
  have BW := hide b1
  clear SH RK hjw hl hjn b1
  simp only [Shp.val]
  go_enter Try.func59, Try.ntmps59
  go_wp2_with (go_at_call 62; refine (fits_fine (HSH.out.below BW.out (Nat.le_refl _)) HL.out hs most hm 0 (.inl ⟨hm0, rfl⟩)).mono ?_; rintro e w' ⟨rfl, hw⟩; obtain rfl := hw.symm)
  go_loopw [9, 10] (fun e i wr => ∃ (k : Nat) (er : Int), k ≤ P.nh ∧ i = .int .i64 k ∧ Below W1.heap.size W1 wr ∧ e = .int .i64 er ∧ ((er = 0 ∧ ∀ h, h < k → ∀ j, j < P.jn h → K.err (P.jb h j) = 0) ∨ FirstErr K P er)) (fun _ i _ => P.nh - (intOf i).toNat)
  case atStart => exact ⟨0, 0, Nat.zero_le _, rfl, Below.refl _ _, rfl, .inl ⟨rfl, fun h hh => absurd hh (Nat.not_lt_zero h)⟩⟩
  case round =>
    obtain ⟨wo, rfl⟩ : ∃ x, x = wr := ⟨_, rfl⟩
    obtain ⟨k, er, hk, rfl, hb, rfl, hcase⟩ := hrel
    have HB := hide hb
    clear hb
    rcases hcase with ⟨rfl, hall⟩ | hfe
    · have HALL := hide hall
      clear hall
      by_cases hlt : k < P.nh
      · have hkn : (k : Int) < (P.nh : Int) := by omega
        obtain ⟨b, off, ao', cap', hao, hbl, hcc, hjj⟩ := (HSH.out.below (BW.out.trans (HB.out.mono (by omega))) (Nat.le_refl _)) k hlt
        subst hao
        have hjk := HJN.out k hlt
        have HJJ := hide hjj
        clear hjj
        go_wp2_with fail
        go_loopw [9, 11] (fun e i wr => ∃ (q : Nat) (er : Int), q ≤ P.jn k ∧ i = .int .i64 q ∧ Below W1.heap.size W1 wr ∧ e = .int .i64 er ∧ ((er = 0 ∧ ∀ j, j < q → K.err (P.jb k j) = 0) ∨ (FirstErr K P er ∧ ¬ er = 0))) (fun _ i _ => P.jn k - (intOf i).toNat)
        case atStart => exact ⟨0, 0, Nat.zero_le _, rfl, HB.out, rfl, .inl ⟨rfl, fun j hj => absurd hj (Nat.not_lt_zero j)⟩⟩
        case round =>
          obtain ⟨q, er, hq, rfl, hb2, rfl, hcase2⟩ := hrel
          have HB2' := hide hb2
          have hccr := (hb2.cell (p := ⟨b, off + k, none⟩) (by show b < _; omega)).trans ((HB.out.cell (p := ⟨b, off + k, none⟩) (by show b < _; omega)).symm.trans hcc)
          rcases hcase2 with ⟨rfl, hall2⟩ | ⟨hfe2, hne2⟩
          · have HALL2 := hide hall2
            clear hall2
            by_cases hlq : q < P.jn k
            · have hqn : (q : Int) < (P.jn k : Int) := by omega
              obtain ⟨b', off', hao', hbl', hc'⟩ := HJJ.out q hlq
              subst hao'
              obtain ⟨cs, hcs1, hcs2, hcs⟩ := HRK.out.start k (P.jb k q) (by omega) (by omega) (HJW.out k hlt q hlq)
              have ST := hide hcs
              obtain ⟨ev, hev⟩ : ∃ ev, K.err (P.jb k q) = ev := ⟨_, rfl⟩
              rw [hev] at ST
              have HEV := hide hev
              have lwr : W1.heap.size ≤ wr.heap.size := hb2.size
              obtain ⟨jb, hjb⟩ : ∃ jb, P.jb k q = jb := ⟨_, rfl⟩
              rw [hjb] at hc' ST
              obtain ⟨jk, ja, jbb, jc, jh⟩ := jb
              simp only [Shp.val, Jb.val, kept0] at ST
              have W0 : Below wr.heap.size wr wr.drew ∧ wr.rangeAt w.heap.size 0 [Value.int .i64 sh.a, .int .i64 sh.b, .int .i64 sh.c, .int .i64 sh.d, .int .i64 sh.e, .int .i64 sh.f] ∧ wr.cell? ⟨b, off + k * 1, none⟩ = some (.slice (some ⟨b', off', none⟩) (P.jn k) cap') ∧ wr.rangeAt b' (off' + q * 5) [.int .i64 jk, .int .i64 ja, .int .i64 jbb, .int .i64 jc, .int .u64 jh] := by
                refine ⟨(Below.refl _ _).drew, rangeAt_block R1.out (hb2.block _ (by omega)), by rw [Nat.mul_one]; exact hccr, fun j v hv => ?_⟩
                have hj : j < 5 := (List.getElem?_eq_some_iff.1 hv).1
                rw [show wr.cell? ⟨b', off' + q * 5 + j, none⟩ = wo.cell? ⟨b', off' + q * 5 + j, none⟩ from (hb2.cell (p := ⟨b', off' + q * 5 + j, none⟩) (by show b' < _; omega)).trans (HB.out.cell (p := ⟨b', off' + q * 5 + j, none⟩) (by show b' < _; omega)).symm, hc' j hj]
                match j, hj with
                | 0, _ | 1, _ | 2, _ | 3, _ | 4, _ => exact congrArg some (Option.some.inj hv)
              have HW0 := hide W0
              obtain ⟨dJ, hdJ⟩ := row54
              obtain ⟨dS, hdS⟩ := row42
              have DJ := hide hdJ
              have DS := hide hdS
              clear W0 hcs hcs1 hcs2 hev hjb hc' hb2 hdJ hdS
              go_wp2_with fail
              ·
                refine Reg.region (t := (⟨[(0, 40), (1, 41), (2, 42), (3, 43), (4, 44), (5, 45), (6, 46), (7, 47), (8, 48), (9, 49), (11, 39), (12, 51), (13, 52), (14, 9)],
                    fun i => match i with
                      | 0 => .agg #[.int .i64 sh.a, .int .i64 sh.b, .int .i64 sh.c, .int .i64 sh.d, .int .i64 sh.e, .int .i64 sh.f]
                      | 2 => .slice (some ⟨b, off, none⟩) P.nh caph
                      | 4 => .pointer (some ⟨b, off + k * 1, none⟩)
                      | 5 => .slice (some ⟨b', off', none⟩) (P.jn k) cap'
                      | 6 => .int .i64 (q : Int)
                      | 7 => .pointer (some ⟨b', off' + q * 5, none⟩)
                      | 8 => .agg #[.int .i64 jk, .int .i64 ja, .int .i64 jbb, .int .i64 jc, .int .u64 jh]
                      | 9 => .agg #[.int .u64 0, .int .u64 0, .int .u64 0, .int .u64 0]
                      | 11 => .tuple #[.agg cs.toArray, .int .i64 ev]
                      | 12 => .agg cs.toArray
                      | 13 => .int .i64 ev
                      | 14 => .int .i64 ev
                      | _ => .int .i64 (k : Int),
                    10, 50, .tuple #[.agg cs.toArray, .int .i64 ev], [], fun _ => (3, []), [], fun _ => []⟩ : Reg.TabL).tab)
                  (WI := fun _ w' => Below wr.heap.size wr w' ∧ w'.rangeAt w.heap.size 0 [Value.int .i64 sh.a, .int .i64 sh.b, .int .i64 sh.c, .int .i64 sh.d, .int .i64 sh.e, .int .i64 sh.f] ∧ w'.cell? ⟨b, off + k * 1, none⟩ = some (.slice (some ⟨b', off', none⟩) (P.jn k) cap') ∧ w'.rangeAt b' (off' + q * 5) [.int .i64 jk, .int .i64 ja, .int .i64 jbb, .int .i64 jc, .int .u64 jh])
                  (gw := w.heap.size) (by kernel_rfl) (Reg.TabL.ok _ rfl (fun i j hm => by simp at hm)) ?g8 ?b8 (by omega) ?alo ?sto ?dd HW0.out ?kinds ?fin
                case g8 =>
                  intro i o ho
                  have hi : i < 15 := by have := (Array.getElem?_eq_some_iff.1 ho).1; simpa using this
                  match i, hi with
                  | 0, _ | 1, _ | 2, _ | 3, _ | 4, _ | 5, _ | 6, _ | 7, _ | 8, _ | 9, _ | 10, _ | 11, _ | 12, _ | 13, _ | 14, _ => injection ho with ho; subst ho; rfl
                case b8 =>
                  intro i o ho
                  have hi : i < 15 := by have := (Array.getElem?_eq_some_iff.1 ho).1; simpa using this
                  match i, hi with
                  | 0, _ | 1, _ | 2, _ | 3, _ | 4, _ | 5, _ | 6, _ | 7, _ | 8, _ | 9, _ | 10, _ | 11, _ | 12, _ | 13, _ | 14, _ => injection ho with ho; subst ho; simp [Region.binds]
                case alo =>
                  rintro _ w' o ⟨h0, h1, h2, h3⟩
                  exact ⟨h0.alloc h0.size _, World.rangeAt_alloc h1 o, (World.cell?_alloc_lt _ _ _ (World.block_lt_of_cell? _ _ h2)).trans h2, World.rangeAt_alloc h3 o⟩
                case sto =>
                  rintro _ w' x vs ⟨h0, h1, h2, h3⟩ hk
                  have tt := touch_setCells x vs 0 w'
                  exact ⟨h0.trans (tt.below (fun y hy => by omega) h0.size), rangeAt_block h1 (tt.block _ (World.block_lt_of_cell? _ _ (h1 0 _ rfl)) (by show w.heap.size ≠ x; omega)), (World.cell?_of_block (a := ⟨b, off + k * 1, none⟩) (tt.block _ (World.block_lt_of_cell? _ _ h2) (by show b ≠ x; omega))).trans h2, rangeAt_block h3 (tt.block _ (World.block_lt_of_cell? _ _ (h3 0 _ rfl)) (by show b' ≠ x; omega))⟩
                case dd =>
                  intro x hx
                  have hx' : x < 54 := by
                    simp [Reg.TabL.tab] at hx
                    omega
                  simpa using hx'
                case kinds =>
                  have hWb : ∀ w1 w2 : World, (Below wr.heap.size wr w1 ∧ w1.rangeAt w.heap.size 0 [Value.int .i64 sh.a, .int .i64 sh.b, .int .i64 sh.c, .int .i64 sh.d, .int .i64 sh.e, .int .i64 sh.f] ∧ w1.cell? ⟨b, off + k * 1, none⟩ = some (.slice (some ⟨b', off', none⟩) (P.jn k) cap') ∧ w1.rangeAt b' (off' + q * 5) [.int .i64 jk, .int .i64 ja, .int .i64 jbb, .int .i64 jc, .int .u64 jh]) → Below w1.heap.size w1 w2 → (Below wr.heap.size wr w2 ∧ w2.rangeAt w.heap.size 0 [Value.int .i64 sh.a, .int .i64 sh.b, .int .i64 sh.c, .int .i64 sh.d, .int .i64 sh.e, .int .i64 sh.f] ∧ w2.cell? ⟨b, off + k * 1, none⟩ = some (.slice (some ⟨b', off', none⟩) (P.jn k) cap') ∧ w2.rangeAt b' (off' + q * 5) [.int .i64 jk, .int .i64 ja, .int .i64 jbb, .int .i64 jc, .int .u64 jh]) := by
                    rintro w1 w2 ⟨h0, h1, h2, h3⟩ hb
                    exact ⟨h0.trans (hb.mono h0.size), rangeAt_block h1 (hb.block _ (World.block_lt_of_cell? _ _ (h1 0 _ rfl))), (hb.cell (p := ⟨b, off + k * 1, none⟩) (World.block_lt_of_cell? _ _ h2)).trans h2, rangeAt_block h3 (hb.block _ (World.block_lt_of_cell? _ _ (h3 0 _ rfl)))⟩
                  intro i o ho
                  have hi : i < 15 := by have := (Array.getElem?_eq_some_iff.1 ho).1; simpa using this
                  match i, hi with
                  | 0, _ => injection ho with ho; subst ho; exact .inl ⟨40, _, rfl, rfl, fun L a w' bk hI hd => ex_load_row rfl (hI.fix 4 (Reg.notD rfl)) hI.world.2.1 DS.out.1 DS.out.2 size42⟩
                  | 1, _ => injection ho with ho; subst ho; exact .inl ⟨41, _, rfl, rfl, fun L a w' bk hI hd => ex_move rfl (hI.fix 10 (Reg.notD rfl))⟩
                  | 2, _ => injection ho with ho; subst ho; exact .inl ⟨42, _, rfl, rfl, fun L a w' bk hI hd => ex_move rfl (hI.fix 1 (Reg.notD rfl))⟩
                  | 3, _ => injection ho with ho; subst ho; exact .inl ⟨43, _, rfl, rfl, fun L a w' bk hI hd => ex_move rfl (hI.fix 10 (Reg.notD rfl))⟩
                  | 4, _ => injection ho with ho; subst ho; exact .inl ⟨44, _, rfl, rfl, fun L a w' bk hI hd => ex_index rfl (hI.pure 2 _ _ rfl (hd ⟨2, .data⟩ (by simp) rfl)) (hI.pure 3 _ _ rfl (hd ⟨3, .data⟩ (by simp) rfl)) hlt Try.underlying25 sz52⟩
                  | 5, _ => injection ho with ho; subst ho; exact .inl ⟨45, _, rfl, rfl, fun L a w' bk hI hd => ex_load rfl (hI.pure 4 _ _ rfl (hd ⟨4, .data⟩ (by simp) rfl)) (agg_no w').2.2.1 hI.world.2.2.1⟩
                  | 6, _ => injection ho with ho; subst ho; exact .inl ⟨46, _, rfl, rfl, fun L a w' bk hI hd => ex_move rfl (hI.fix 11 (Reg.notD rfl))⟩
                  | 7, _ => injection ho with ho; subst ho; exact .inl ⟨47, _, rfl, rfl, fun L a w' bk hI hd => ex_index rfl (hI.pure 5 _ _ rfl (hd ⟨5, .data⟩ (by simp) rfl)) (hI.pure 6 _ _ rfl (hd ⟨6, .data⟩ (by simp) rfl)) hlq Try.underlying74 sz54⟩
                  | 8, _ => injection ho with ho; subst ho; exact .inl ⟨48, _, rfl, rfl, fun L a w' bk hI hd => ex_load_row rfl (hI.pure 7 _ _ rfl (hd ⟨7, .data⟩ (by simp) rfl)) hI.world.2.2.2 DJ.out.1 DJ.out.2 size54⟩
                  | 9, _ => injection ho with ho; subst ho; exact .inl ⟨49, _, rfl, rfl, fun L a w' bk hI hd => build77 rfl⟩
                  | 10, _ => injection ho with ho; subst ho; exact .inr (.inl ⟨rfl, rfl, fun L a w' bk K hI hL hd hk => wp_call (f := 34) (call4 rfl (hI.pure 0 _ _ rfl (hd ⟨0, .data⟩ (by simp) rfl)) (hI.pure 1 _ _ rfl (hd ⟨1, .data⟩ (by simp) rfl)) (hI.pure 8 _ _ rfl (hd ⟨8, .data⟩ (by simp) rfl)) (hI.pure 9 _ _ rfl (hd ⟨9, .data⟩ (by simp) rfl)) rfl (callStartW _ _)) ((ST.out w').mono (fun e w'' ⟨he, hb⟩ => ⟨_, he, hk w'' (hWb w' w'' hI.world hb) (Touch.of_below hb _)⟩))⟩)
                  | 11, _ => injection ho with ho; subst ho; exact .inl ⟨39, _, rfl, rfl, fun L a w' bk hI hd => ex_move rfl (hI.call (hd ⟨10, .data⟩ (by simp) rfl))⟩
                  | 12, _ => injection ho with ho; subst ho; exact .inl ⟨51, _, rfl, rfl, fun L a w' bk hI hd => ex_extract rfl (hI.pure 11 _ _ rfl (hd ⟨11, .data⟩ (by simp) rfl)) rfl⟩
                  | 13, _ => injection ho with ho; subst ho; exact .inl ⟨52, _, rfl, rfl, fun L a w' bk hI hd => ex_extract rfl (hI.pure 11 _ _ rfl (hd ⟨11, .data⟩ (by simp) rfl)) rfl⟩
                  | 14, _ => injection ho with ho; subst ho; exact .inl ⟨9, _, rfl, rfl, fun L a w' bk hI hd => ex_assign rfl (hI.pure 13 _ _ rfl (hd ⟨13, .data⟩ (by simp) rfl))⟩
                case fin =>
                  intro L a' w' bk hI hall
                  have ea := act_all a' 54 (by rw [hI.sz]; rfl) hI.df
                  simp only [List.range, List.range.loop, List.map] at ea
                  rw [hI.fix 0 (Reg.notD rfl), hI.fix 1 (Reg.notD rfl), hI.fix 2 (Reg.notD rfl), hI.fix 3 (Reg.notD rfl), hI.fix 4 (Reg.notD rfl), hI.fix 5 (Reg.notD rfl), hI.fix 6 (Reg.notD rfl), hI.fix 7 (Reg.notD rfl), hI.fix 8 (Reg.notD rfl), hI.fix 10 (Reg.notD rfl), hI.fix 11 (Reg.notD rfl), hI.fix 12 (Reg.notD rfl), hI.fix 13 (Reg.notD rfl), hI.fix 14 (Reg.notD rfl), hI.fix 15 (Reg.notD rfl), hI.fix 16 (Reg.notD rfl), hI.fix 17 (Reg.notD rfl), hI.fix 18 (Reg.notD rfl), hI.fix 19 (Reg.notD rfl), hI.fix 20 (Reg.notD rfl), hI.fix 21 (Reg.notD rfl), hI.fix 22 (Reg.notD rfl), hI.fix 23 (Reg.notD rfl), hI.fix 24 (Reg.notD rfl), hI.fix 25 (Reg.notD rfl), hI.fix 26 (Reg.notD rfl), hI.fix 27 (Reg.notD rfl), hI.fix 28 (Reg.notD rfl), hI.fix 29 (Reg.notD rfl), hI.fix 30 (Reg.notD rfl), hI.fix 31 (Reg.notD rfl), hI.fix 32 (Reg.notD rfl), hI.fix 33 (Reg.notD rfl), hI.fix 34 (Reg.notD rfl), hI.fix 35 (Reg.notD rfl), hI.fix 36 (Reg.notD rfl), hI.fix 37 (Reg.notD rfl), hI.fix 38 (Reg.notD rfl), hI.fix 53 (Reg.notD rfl)] at ea
                  have p9 := hI.pure 14 9 _ rfl (hall 14 (by decide))
                  have hbx := hI.world.1
                  rw [p9] at ea
                  clear hI hall p9
                  generalize a'.eval (.tmp 39) = u39 at ea
                  generalize a'.eval (.tmp 40) = u40 at ea
                  generalize a'.eval (.tmp 41) = u41 at ea
                  generalize a'.eval (.tmp 42) = u42 at ea
                  generalize a'.eval (.tmp 43) = u43 at ea
                  generalize a'.eval (.tmp 44) = u44 at ea
                  generalize a'.eval (.tmp 45) = u45 at ea
                  generalize a'.eval (.tmp 46) = u46 at ea
                  generalize a'.eval (.tmp 47) = u47 at ea
                  generalize a'.eval (.tmp 48) = u48 at ea
                  generalize a'.eval (.tmp 49) = u49 at ea
                  generalize a'.eval (.tmp 50) = u50 at ea
                  generalize a'.eval (.tmp 51) = u51 at ea
                  generalize a'.eval (.tmp 52) = u52 at ea
                  simp only [show ∀ (ts : Array Value) (ds) (i : Nat), (Act.mk ts ds).eval (.tmp i) = ts.getD i undef from fun _ _ _ => rfl] at ea
                  simp at ea
                  subst ea
                  go_wp2_with fail
                  go_roundw
                  case rel =>
                    refine ⟨q + 1, ev, by omega, by go_num, HB2'.out.trans (hbx.mono HB2'.out.size), rfl, ?_⟩
                    by_cases h0 : ev = 0
                    · exact .inl ⟨h0, fun j hj => by rcases Nat.lt_or_ge j q with l | l; exact HALL2.out j l; obtain rfl : j = q := (by omega); rw [HEV.out, h0]⟩
                    · exact .inr ⟨⟨k, q, hlt, hlq, HEV.out, h0, HALL.out, HALL2.out⟩, h0⟩
                  case measure => simp [intOf]; omega
            · have hqn : ¬ (q : Int) < (P.jn k : Int) := by omega
              go_wp2_with fail
              go_roundw
              case rel => exact ⟨k + 1, 0, by omega, by go_num, HB2'.out, rfl, .inl ⟨rfl, fun h hh j hj => by rcases Nat.lt_or_ge h k with l | l; exact HALL.out h l j hj; obtain rfl : h = k := (by omega); exact HALL2.out j (by omega)⟩⟩
              case measure => simp [intOf]; omega
          · have HFE := hide hfe2
            clear hfe2
            by_cases hlq : q < P.jn k
            · have hqn : (q : Int) < (P.jn k : Int) := by omega
              go_wp2_with fail
              go_roundw
              case rel => exact ⟨k + 1, er, by omega, by go_num, HB2'.out, rfl, .inr HFE.out⟩
              case measure => simp [intOf]; omega
            · have hqn : ¬ (q : Int) < (P.jn k : Int) := by omega
              go_wp2_with fail
              go_roundw
              case rel => exact ⟨k + 1, er, by omega, by go_num, HB2'.out, rfl, .inr HFE.out⟩
              case measure => simp [intOf]; omega
      · have hkn : ¬ (k : Int) < (P.nh : Int) := by omega
        go_wp2_with fail
        go_ret
        exact ⟨BW.out.trans (HB.out.mono (by omega)), .inl ⟨fun h hh j hj => HALL.out h (by omega) j hj, rfl⟩⟩
    · have hne : ¬ er = 0 := by obtain ⟨_, _, _, _, _, h, _⟩ := hfe; exact h
      have HFE := hide hfe
      clear hfe
      by_cases hlt : k < P.nh
      · have hkn : (k : Int) < (P.nh : Int) := by omega
        go_wp2_with fail
        go_ret
        exact ⟨BW.out.trans (HB.out.mono (by omega)), .inr ⟨er, HFE.out, rfl⟩⟩
      · have hkn : ¬ (k : Int) < (P.nh : Int) := by omega
        go_wp2_with fail
        go_ret
        exact ⟨BW.out.trans (HB.out.mono (by omega)), .inr ⟨er, HFE.out, rfl⟩⟩
set_option maxHeartbeats 4000000 in
theorem wrong_fits (er : Int) (her : er ≠ 0) (h : ∀ w' : World, Below w.heap.size w w' → Calls Try.prog 62 #[.slice aoh P.nh caph, .slice aos P.ns caps, .int .i64 most] w' fun e w'' => e = .returned (.int .i64 er) ∧ w'' = w') :
    Calls Try.prog 59 #[sh.val, .slice aoh P.nh caph, .slice aos P.ns caps, .int .i64 most] w fun e w' => Below w.heap.size w w' ∧ e = .returned (.int .i64 er) := by
  have her' : ¬ er = 0 := her
  have HH := hide (h _ ((Below.refl _ w).alloc (Nat.le_refl _) (.cells #[.int .i64 sh.a, .int .i64 sh.b, .int .i64 sh.c, .int .i64 sh.d, .int .i64 sh.e, .int .i64 sh.f] 23)))
  clear h her
  simp only [Shp.val]
  go_enter Try.func59, Try.ntmps59
  go_wp2_with (go_at_call 62; refine HH.out.mono ?_; rintro e w' ⟨rfl, hw⟩; obtain rfl := hw.symm)
  go_loopw [9, 10] (fun e i wr => ∃ k : Nat, k ≤ P.nh ∧ e = .int .i64 er ∧ i = .int .i64 k ∧ wr = w.alloc (.cells #[.int .i64 sh.a, .int .i64 sh.b, .int .i64 sh.c, .int .i64 sh.d, .int .i64 sh.e, .int .i64 sh.f] 23)) (fun _ _ _ => 0)
  case atStart => exact ⟨0, Nat.zero_le _, rfl, rfl, rfl⟩
  case round =>
    obtain ⟨k, hk, rfl, rfl, rfl⟩ := hrel
    by_cases hlt : k < P.nh
    · have hkn : (k : Int) < (P.nh : Int) := by omega
      go_wp2_with fail
      go_ret
      exact ⟨(Below.refl _ w).alloc (Nat.le_refl _) _, rfl⟩
    · have hkn : ¬ (k : Int) < (P.nh : Int) := by omega
      go_wp2_with fail
      go_ret
      exact ⟨(Below.refl _ w).alloc (Nat.le_refl _) _, rfl⟩
end L5
end Go.Proofs.Ytpghfebnggoacaa
