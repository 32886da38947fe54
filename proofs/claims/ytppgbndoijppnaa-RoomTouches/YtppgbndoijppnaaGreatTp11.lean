/-
  Lemmas: RLaid, RTk, RDone, Goods, Steps0, RDone2.
-/
import Derived.Test.YtppgbndoijppnaaGreatTp10
import Derived.Deep.Light
import Derived.Deep.RegionLaw
import Derived.Deep.AppendLies
import Derived.Test.YtppgbndoijppnaaGreatTp05
import Derived.Deep.Cut
namespace Go.Proofs.YtppgbndoijppnaaGreat
set_option maxHeartbeats 8000000
open Go.RowKit
set_option linter.unusedVariables false
set_option linter.unusedSimpArgs false
set_option linter.unnecessarySimpa false
set_option maxRecDepth 20000
section
open Beg
theorem size79 : (Tryz.prog.info? 59).map (·.size) = some 28 := by kernel_rfl
theorem row79 : ∃ d, Tryz.prog.underlying 59 = some d ∧ d.isRow = true := by
  have h : (Tryz.prog.underlying 59).map (fun d => d.isRow) = some true := by kernel_rfl
  exact Option.map_eq_some_iff.1 h
theorem rangeAt_block {w w' : World} {b o : Nat} {cs : List Value} (h : w.rangeAt b o cs) (e : w'.heap[b]? = w.heap[b]?) : w'.rangeAt b o cs := fun j v hv => by
  rw [World.cell?_of_block (a := ⟨b, o + j, none⟩) e]; exact h j v hv
theorem there_block {w w' : World} {b o n : Nat} (h : w.there b o n) (e : w'.heap[b]? = w.heap[b]?) : w'.there b o n := fun j hj => by
  rw [World.cell?_of_block (a := ⟨b, o + j, none⟩) e, World.frozen?_of_block (a := ⟨b, o + j, none⟩) e]; exact h j hj
theorem rowIs.there {w : World} {b n o m : Nat} {t : TypeId} {f : Nat → Value} (h : w.rowIs b t n f) (hm : o + m ≤ n) : w.there b o m := fun j hj =>
  ⟨by rw [h.cell (i := o + j) (by omega)]; rfl, h.frozen _⟩
theorem rowIs.setCells {b n : Nat} {t : TypeId} : ∀ (vs : List Value) (o : Nat) (w : World) (f : Nat → Value), w.rowIs b t n f → (w.setCells b o vs).rowIs b t n (fun i => if o ≤ i ∧ i < o + vs.length then vs[i - o]?.getD default else f i)
  | [], o, w, f, h => h.congr (fun i hi => by simp; intros; omega)
  | v :: r, o, w, f, h => by
    rw [World.setCells]
    refine (rowIs.setCells r (o + 1) _ _ (h.set o v)).congr (fun i hi => ?_)
    by_cases h1 : i = o
    · subst h1; simp; intro h3; omega
    · by_cases h2 : o + 1 ≤ i ∧ i < o + 1 + r.length
      · rw [if_pos h2, if_pos (by simp; omega)]
        have : i - o = (i - (o + 1)) + 1 := by omega
        rw [this]; simp
      · rw [if_neg h2]; simp only [h1, if_false]; rw [if_neg (by simp only [List.length_cons]; omega)]
section
variable {Q : Program} {fn : Func} {tmps : Array Value} {W : World} {v u : Value} {a a' : Addr} {t t' t'' : Nat} {ty ty' : TypeId}
theorem results_c (hf : fn.results = #[.cell t ty]) (ht : tmps.getD t undef = .pointer (some a)) (hl : (loadVar ty a).run Q W = .ok v W) : (results fn tmps).run Q W = .ok v W := by
  have ha : (asAddr (.pointer (some a))).run Q W = .ok a W := rfl
  unfold results
  rw [hf]
  simp only [Array.mapM_eq_mapM_toList, List.mapM_cons, List.mapM_nil, ht, Sem.run_bind, ha, hl, Result.andThen_ok, Sem.run_pure, bind_assoc, pure_bind, map_eq_pure_bind]
  rfl
theorem results_ct (hf : fn.results = #[.cell t ty, .tmp t']) (ht : tmps.getD t undef = .pointer (some a)) (hl : (loadVar ty a).run Q W = .ok v W) : (results fn tmps).run Q W = .ok (.tuple #[v, tmps.getD t' undef]) W := by
  have ha : (asAddr (.pointer (some a))).run Q W = .ok a W := rfl
  unfold results
  rw [hf]
  simp only [Array.mapM_eq_mapM_toList, List.mapM_cons, List.mapM_nil, ht, Sem.run_bind, ha, hl, Result.andThen_ok, Sem.run_pure, bind_assoc, pure_bind, map_eq_pure_bind]
  rfl
end
theorem rangeAt_setOther {w : World} {b o : Nat} {cs : List Value} (h : w.rangeAt b o cs) {a : Addr} (ha : b ≠ a.block) (v : Value) : (w.setCell a v).rangeAt b o cs := rangeAt_block h (Below.heap_setCell _ _ _ _ ha)
theorem there_setOther {w : World} {b o n : Nat} (h : w.there b o n) {a : Addr} (ha : b ≠ a.block) (v : Value) : (w.setCell a v).there b o n := there_block h (Below.heap_setCell _ _ _ _ ha)
variable {K : Kd} {rep : List Value → K.σ → Prop} {P : Par} {blk : Rl → Nat} {c : Rl → Option Row} {st : St K} {un : Nat → Bool} {capw : Nat} {sv : Value} {w : World} {base B : Nat} {aoh aos : Option Addr} {caph caps : Nat} {sh : Shp} {la : Int}
theorem RGood.laid (G : RGood K rep P blk c st un capw sv) {c' : Rl → Option Row} {h : Nat} {cs : List Value} (hh : h < P.nh) (hu : un h = false) (hd : st.done h < P.jn h) (hk : IsTk cs) (hrep : rep cs (st.cur h))
    (hc : ∀ r, r ≠ .tasks → r ≠ .going → r ≠ .run → c' r = c r) {T T' : Nat → Value} (eT : c .tasks = some ⟨59, P.nh * 28, T⟩) (eT' : c' .tasks = some ⟨59, P.nh * 28, T'⟩)
    (hT1 : ∀ i, ¬ (h * 28 ≤ i ∧ i < h * 28 + 28) → T' i = T i) (hT2 : ∀ i u, cs[i]? = some u → T' (h * 28 + i) = u)
    {U U' : Nat → Value} (eU : c .going = some ⟨4, P.nh, U⟩) (eU' : c' .going = some ⟨4, P.nh, U'⟩) (hU' : ∀ i, U' i = if i = h then .bool true else U i)
    {Bf Bf' : Nat → Value} (eB : c .run = some ⟨3, P.nh, Bf⟩) (eB' : c' .run = some ⟨3, P.nh, Bf'⟩) (hB' : ∀ i, Bf' i = if i = h then .int .i64 ((st.done h + 1 : Nat) : Int) else Bf i) :
    RGood K rep P blk c' st (upd un h true) capw sv := by
  refine ⟨?_, G.word, ?_, ?_, ?_, ?_, ?_, ?_, G.doneLe, ?_, ?_, G.jobs, G.hands, G.jwf, G.lastOk⟩
  · rw [hc _ (by simp) (by simp) (by simp)]; exact G.words
  · obtain ⟨T0, eT0, hT0⟩ := G.tasks
    obtain rfl : T = T0 := by rw [eT] at eT0; cases eT0; rfl
    refine ⟨T', eT', fun i hi hui => ?_⟩
    by_cases hih : i = h
    · subst hih; exact ⟨cs, hk, hT2, hrep⟩
    · rw [upd_other _ _ hih] at hui
      obtain ⟨cs', h1, h2, h3⟩ := hT0 i hi hui
      refine ⟨cs', h1, fun j u hu' => ?_, h3⟩
      have hj : j < 28 := by have := (List.getElem?_eq_some_iff.1 hu').1; have := h1.1; omega
      rw [hT1 _ (by omega)]; exact h2 j u hu'
  · obtain ⟨U0, eU0, hU0⟩ := G.under
    obtain rfl : U = U0 := by rw [eU] at eU0; cases eU0; rfl
    refine ⟨U', eU', fun i hi => ?_⟩
    rw [hU' i]
    by_cases hih : i = h
    · subst hih; rw [if_pos rfl, upd_same]
    · rw [if_neg hih, upd_other _ _ hih]; exact hU0 i hi
  · obtain ⟨B0, eB0, hB0⟩ := G.begun
    obtain rfl : Bf = B0 := by rw [eB] at eB0; cases eB0; rfl
    refine ⟨Bf', eB', fun i hi => ?_⟩
    rw [hB' i]
    by_cases hih : i = h
    · subst hih; simp
    · rw [if_neg hih, upd_other _ _ hih]; exact hB0 i hi
  · rw [hc _ (by simp) (by simp) (by simp)]; exact G.kept
  · obtain ⟨A, eA, hA⟩ := G.answers
    exact ⟨A, by rw [hc _ (by simp) (by simp) (by simp)]; exact eA, fun i hi => by have := hA i hi; unfold Grows at this ⊢; rw [hc _ (by simp) (by simp) (by simp)]; exact this⟩
  · have := G.steps; unfold Grows at this ⊢; rw [hc _ (by simp) (by simp) (by simp)]; exact this
  · intro i hi hui
    by_cases hih : i = h
    · subst hih; exact hd
    · rw [upd_other _ _ hih] at hui; exact G.unLt i hi hui
  · intro i hi hui
    by_cases hih : i = h
    · subst hih; rw [upd_same] at hui; cases hui
    · rw [upd_other _ _ hih] at hui; exact G.fresh i hi hui
theorem laid_any (G : RGood K rep P blk c st un capw sv) (H : Has w base blk c) {h : Nat} {cs : List Value} (hh : h < P.nh) (hu : un h = false) (hd : st.done h < P.jn h) (hk : IsTk cs) (hrep : rep cs (st.cur h)) :
    Calls Tryz.prog 48 #[rv sh P blk capw (.slice aoh P.nh caph) sv la, .int .i64 h, .agg cs.toArray] w fun e w' => e = .returned (rv sh P blk capw (.slice aoh P.nh caph) sv la) ∧
      ∃ c', Has w' base blk c' ∧ RGood K rep P blk c' st (upd un h true) capw sv ∧ Touch w w' (fun k => k = blk .tasks ∨ k = blk .going ∨ k = blk .run) := by
  obtain ⟨s0, s1, s2, s3, s4, s5⟩ := sh
  obtain ⟨sa, sc, rfl⟩ := G.steps.isSlice'
  have hnh := G.hands
  obtain ⟨T, eT, hT⟩ := G.tasks
  obtain ⟨U, eU, hU⟩ := G.under
  obtain ⟨Bf, eB, hBf⟩ := G.begun
  have hkl := hk.1
  obtain ⟨L, hL⟩ : ∃ L : List Value, L = [.int .i64 s0, .int .i64 s1, .int .i64 s2, .int .i64 s3, .int .i64 s4, .int .i64 s5, .slice (some ⟨blk .words, 0, none⟩) P.n capw, .slice aoh P.nh caph, .slice (some ⟨blk .tasks, 0, none⟩) P.nh P.nh, .slice (some ⟨blk .going, 0, none⟩) P.nh P.nh, .slice (some ⟨blk .run, 0, none⟩) P.nh P.nh, .slice (some ⟨blk .mem, 0, none⟩) P.nh P.nh, .slice sa st.k sc, .slice (some ⟨blk .answers, 0, none⟩) P.nh P.nh, .int .i64 la] := ⟨_, rfl⟩
  have hval : rv ⟨s0, s1, s2, s3, s4, s5⟩ P blk capw (.slice aoh P.nh caph) (.slice sa st.k sc) la = .agg L.toArray := by rw [hL]; rfl
  rw [hval]
  have hLl : L.length = 15 := by rw [hL]; rfl
  have hL1 : ∀ v ∈ L, v.oneCell' = true := by rw [hL]; simp [Value.oneCell']
  have LT := hide (fun r x e => H.lt (r := r) (x := x) e)
  have hlT := H.lt eT
  have hlU := H.lt eU
  have hlB := H.lt eB
  have nTU : blk .tasks ≠ blk .going := H.ne eT eU (by simp)
  have nTB : blk .tasks ≠ blk .run := H.ne eT eB (by simp)
  have nUB : blk .going ≠ blk .run := H.ne eU eB (by simp)
  obtain ⟨W3, hW3⟩ : ∃ W3, ((w.alloc (.cells L.toArray 115)).alloc (.cells cs.toArray 59)).alloc (.cells #[.int .i64 0, .int .i64 0, .int .i64 0, .int .i64 0, .int .i64 0, .int .i64 0, .slice none 0 0, .slice none 0 0, .slice none 0 0, .slice none 0 0, .slice none 0 0, .slice none 0 0, .slice none 0 0, .slice none 0 0, .int .i64 0] 115) = W3 := ⟨_, rfl⟩
  have T3 : Touch w W3 (fun _ => False) := by rw [← hW3]; exact (((Touch.refl w _).alloc _).alloc _).alloc _
  have hsz : W3.heap.size = w.heap.size + 3 := by rw [← hW3]; simp
  have rL : W3.rangeAt w.heap.size 0 L := by rw [← hW3]; exact World.rangeAt_alloc (World.rangeAt_alloc (cell_range (b := 0)) _) _
  have rK : W3.rangeAt (w.heap.size + 1) 0 cs := by
    rw [← hW3]
    have := World.rangeAt_alloc (cell_range (b := 0) (w := w.alloc (.cells L.toArray 115)) (t := 59) (cs := cs)) (.cells #[.int .i64 0, .int .i64 0, .int .i64 0, .int .i64 0, .int .i64 0, .int .i64 0, .slice none 0 0, .slice none 0 0, .slice none 0 0, .slice none 0 0, .slice none 0 0, .slice none 0 0, .slice none 0 0, .slice none 0 0, .int .i64 0] 115)
    simpa using this
  have thR : W3.there (w.heap.size + 2) 0 15 := by
    rw [← hW3]
    have := there_alloc_new (w := (w.alloc (.cells L.toArray 115)).alloc (.cells cs.toArray 59)) (t := 115) (cs := [.int .i64 0, .int .i64 0, .int .i64 0, .int .i64 0, .int .i64 0, .int .i64 0, .slice none 0 0, .slice none 0 0, .slice none 0 0, .slice none 0 0, .slice none 0 0, .slice none 0 0, .slice none 0 0, .slice none 0 0, .int .i64 0])
    simpa using this
  have H3 := H.touch T3 (fun _ _ _ => id)
  have HT3 := hide T3
  have HH3 := hide H3
  have HrL := hide rL
  have HrK := hide rK
  have HthR := hide thR
  have HW3 := hide hW3
  have HG := hide G
  have HHL := hide hL
  have HL1 := hide hL1
  have HK := hide hk
  have HREP := hide hrep
  have HBf := hide hBf
  have l8 : L[8]? = some (.slice (some ⟨blk .tasks, 0, none⟩) P.nh P.nh) := by rw [hL]; rfl
  have l9 : L[9]? = some (.slice (some ⟨blk .going, 0, none⟩) P.nh P.nh) := by rw [hL]; rfl
  have l10 : L[10]? = some (.slice (some ⟨blk .run, 0, none⟩) P.nh P.nh) := by rw [hL]; rfl
  have c8 := rL 8 _ l8
  have c9 := rL 9 _ l9
  have c10 := rL 10 _ l10
  simp only [Nat.zero_add] at c8 c9 c10
  obtain ⟨dT, hdT1, hdT2⟩ := row79
  obtain ⟨dR, hdR1, hdR2⟩ := row90
  have DT1 := hide hdT1
  have DT2 := hide hdT2
  have DR1 := hide hdR1
  have DR2 := hide hdR2
  have KL := hide hkl
  have LL := hide hLl
  have hhn : (h : Int) < (P.nh : Int) := by omega
  have hh0 : (0 : Int) ≤ (h : Int) := by omega
  have hd256 : (st.done h : Int) < 256 := by have := G.jobs h hh; omega
  have hd00 : (0 : Int) ≤ (st.done h : Int) := by omega
  have nNB : w.heap.size ≠ blk .run := by omega
  have nNU : w.heap.size ≠ blk .going := by omega
  have nNB2 : w.heap.size + 2 ≠ blk .run := by omega
  have nNU2 : w.heap.size + 2 ≠ blk .going := by omega
  have KEEP : Hid (∀ W4, W3.setCells (blk .tasks) (h * 28) cs.toArray.toList = W4 → (W4.cell? ⟨w.heap.size, 9, none⟩ = some (.slice (some ⟨blk .going, 0, none⟩) P.nh P.nh) ∧ W4.cell? ⟨w.heap.size, 10, none⟩ = some (.slice (some ⟨blk .run, 0, none⟩) P.nh P.nh) ∧ W4.cell? ⟨blk .run, h, none⟩ = some (.int .i64 (st.done h)) ∧ W4.frozen? ⟨blk .run, h, none⟩ = false ∧ W4.cell? ⟨blk .going, h, none⟩ = some (.bool false) ∧ W4.frozen? ⟨blk .going, h, none⟩ = false ∧ W4.rangeAt w.heap.size 0 L ∧ W4.there (w.heap.size + 2) 0 15 ∧
      ∃ T', Has W4 base blk (upd c .tasks (some ⟨59, P.nh * 28, T'⟩)) ∧ (∀ i, ¬ (h * 28 ≤ i ∧ i < h * 28 + 28) → T' i = T i) ∧ (∀ i u, cs[i]? = some u → T' (h * 28 + i) = u) ∧ Touch W3 W4 (fun k => k = blk .tasks))) := by
    intro W4 hW4
    have tt : Touch W3 W4 (fun k => k = blk .tasks) := by rw [← hW4]; exact touch_setCells _ _ _ _
    have q : ∀ p : Addr, p.block < W3.heap.size → p.block ≠ blk .tasks → W4.cell? p = W3.cell? p ∧ W4.frozen? p = W3.frozen? p := fun p h1 h2 => ⟨World.cell?_of_block (tt.block p.block h1 h2), World.frozen?_of_block (tt.block p.block h1 h2)⟩
    have nN : w.heap.size ≠ blk .tasks := by omega
    have nN2 : w.heap.size + 2 ≠ blk .tasks := by omega
    have qB := q ⟨blk .run, h, none⟩ (by show blk .run < _; omega) nTB.symm
    have qU := q ⟨blk .going, h, none⟩ (by show blk .going < _; omega) nTU.symm
    have cb := H3.cell eB (i := h) hh
    have cu := H3.cell eU (i := h) hh
    have hb0 := hBf h hh
    have hu0 := hU h hh
    simp only [hb0, hu, Bool.false_eq_true, if_false, Nat.add_zero] at cb
    simp only [hu0, hu] at cu
    refine ⟨?_, ?_, ?_, ?_, ?_, ?_, rangeAt_block rL (tt.block _ (by omega) nN), there_block thR (tt.block _ (by omega) nN2), ?_⟩
    · rw [(q ⟨w.heap.size, 9, none⟩ (by show w.heap.size < _; omega) nN).1]; exact c9
    · rw [(q ⟨w.heap.size, 10, none⟩ (by show w.heap.size < _; omega) nN).1]; exact c10
    · rw [qB.1]; exact cb
    · rw [qB.2]; exact H3.frozen eB h
    · rw [qU.1]; exact cu
    · rw [qU.2]; exact H3.frozen eU h
    · have rr := rowIs.setCells cs (h * 28) W3 T (H3.row _ _ eT)
      have hW4' : W3.setCells (blk .tasks) (h * 28) cs = W4 := by simpa using hW4
      rw [hW4'] at rr
      refine ⟨_, H3.write .tasks ⟨59, P.nh * 28, fun i => if h * 28 ≤ i ∧ i < h * 28 + cs.length then cs[i - h * 28]?.getD default else T i⟩ eT tt rr, fun i hi => ?_, fun i u hui => ?_, tt⟩
      · rw [if_neg (by rw [hkl]; exact hi)]
      · have hi := (List.getElem?_eq_some_iff.1 hui).1
        rw [if_pos (by omega), show h * 28 + i - h * 28 = i by omega, hui]; rfl
  have HthT := hide (rowIs.there (o := h * 28) (m := 28) (H3.row _ _ eT) (by show h * 28 + 28 ≤ P.nh * 28; omega))
  clear G H H3 T3 rL rK thR hL hL1 hk hrep hBf hT hU hval hdT1 hdT2 hdR1 hdR2 hkl hLl
  go_enter Tryz.func48, Tryz.ntmps48
  go_wp2_with (first
    | (refine wpList_load_mid (by rfl) 59 (.tmp 5) (by rfl) (w.heap.size + 1) 0 (by rfl) cs dT (by exact HrK.out) (by exact DT1.out) (by exact DT2.out) (by rw [KL.out]; exact size79) ?_)
    | (refine wpList_store_mid (by rfl) 59 (.tmp 11) (.tmp 10) (by rfl) (blk .tasks) (h * 28) cs.toArray (by rfl) (by rfl) (by simpa [KL.out] using HthT.out) (by simpa [KL.out] using size79) (by exact all_oneCell_toArray HK.out.2) ?_; obtain ⟨W4, hW4⟩ : ∃ W4, W3.setCells (blk .tasks) (h * 28) cs.toArray.toList = W4 := ⟨_, rfl⟩; rw [hW4]; have KP := hide (KEEP.out W4 hW4); clear hW4; have k1 := KP.out.1; have k2 := KP.out.2.1; have k3 := KP.out.2.2.1; have k4 := KP.out.2.2.2.1; have k5 := KP.out.2.2.2.2.1; have k6 := KP.out.2.2.2.2.2.1)
    | (refine wpList_load_mid (by rfl) 115 (.tmp 3) (by rfl) w.heap.size 0 (by rfl) L dR (by exact rangeAt_setOther (rangeAt_setOther KP.out.2.2.2.2.2.2.1 nNB _) nNU _) (by exact DR1.out) (by exact DR2.out) (by rw [LL.out]; exact size90) ?_)
    | (refine wpList_store_mid (by rfl) 115 (.tmp 6) (.tmp 23) (by rfl) (w.heap.size + 2) 0 L.toArray (by rfl) (by rfl) (by simpa [LL.out] using (there_setOther (there_setOther KP.out.2.2.2.2.2.2.2.1 nNB2 _) nNU2 _)) (by simpa [LL.out] using size90) (by exact all_oneCell_toArray HL1.out) ?_))
  obtain ⟨_, _, _, _, _, _, rL4, thR4, T', H4, hT1, hT2, tt4⟩ := KP.out
  have H5 := H4.set .run (x0 := ⟨3, P.nh, Bf⟩) (by rw [upd_other _ _ (by simp)]; exact eB) h (.int .i64 ((st.done h : Int) + 1))
  have H6 := H5.set .going (x0 := ⟨4, P.nh, U⟩) (by rw [upd_other _ _ (by simp), upd_other _ _ (by simp)]; exact eU) h (.bool true)
  have thR6 := there_setOther (a := ⟨blk .going, h, none⟩) (there_setOther (a := ⟨blk .run, h, none⟩) thR4 nNB2 (.int .i64 ((st.done h : Int) + 1))) nNU2 (.bool true)
  have tt6 : Touch W4 ((W4.setCell ⟨blk .run, h, none⟩ (.int .i64 ((st.done h : Int) + 1))).setCell ⟨blk .going, h, none⟩ (.bool true)) (fun k => k = blk .going ∨ k = blk .run) := ((Touch.refl W4 _).setCell ⟨blk .run, h, none⟩ (.inl (.inr rfl)) _).setCell ⟨blk .going, h, none⟩ (.inl (.inl rfl)) _
  have tt7 := touch_setCells (w.heap.size + 2) L 0 ((W4.setCell ⟨blk .run, h, none⟩ (.int .i64 ((st.done h : Int) + 1))).setCell ⟨blk .going, h, none⟩ (.bool true))
  have rr7 := World.rangeAt_setCells_same ((W4.setCell ⟨blk .run, h, none⟩ (.int .i64 ((st.done h : Int) + 1))).setCell ⟨blk .going, h, none⟩ (.bool true)) (w.heap.size + 2) 0 L (by rw [LL.out]; exact thR6)
  have sz4 := tt4.size
  have hnew : w.heap.size ≤ w.heap.size + 2 := by omega
  refine bodyPost_ret (v := .agg L.toArray) ?res rfl ⟨rfl, _, H6.touch tt7 (fun r x e he => ?_), ?good, ?tch⟩
  case res => exact results_c (by rfl) (by rfl) (run_loadVar_mid _ _ 0 _ L dR rr7 DR1.out DR2.out (by rw [LL.out]; exact size90))
  case good =>
    refine HG.out.laid hh hu hd HK.out HREP.out (fun r h1 h2 h3 => by rw [upd_other _ _ h2, upd_other _ _ h3, upd_other _ _ h1]) eT (T' := T') (by rw [upd_other _ _ (by simp), upd_other _ _ (by simp), upd_same]) hT1 hT2 eU (upd_same _ _ _) (fun i => rfl) eB (by rw [upd_other _ _ (by simp), upd_same]) (fun i => by push_cast; rfl)
  case tch =>
    exact (((HT3.out.mono (S' := fun k => k = blk .tasks ∨ k = blk .going ∨ k = blk .run) (fun _ _ h => h.elim)).trans' tt4 (fun k hk h => .inl h)).trans' tt6 (fun k hk h => .inr h)).trans' tt7 (fun k hk h => absurd hk (by omega))
  · have hlt : blk r < w.heap.size := by
      by_cases h1 : r = .going
      · subst h1; exact hlU
      · rw [upd_other _ _ h1] at e
        by_cases h2 : r = .run
        · subst h2; exact hlB
        · rw [upd_other _ _ h2] at e
          by_cases h3 : r = .tasks
          · subst h3; exact hlT
          · rw [upd_other _ _ h3] at e; exact LT.out r x e
    omega
end
section
structure Rg where
  r0 : Int
  r1 : Int
  r2 : Int
  r3 : Int
  r4 : Int
  r5 : Int
  r6 : Int
  r7 : Int
def Rg.zero : Rg := ⟨0, 0, 0, 0, 0, 0, 0, 0⟩
def tk (s : Shp) (hand : Int) (j : Jb) (stt : Int) (r : Rg) (an : Ans) : List Value :=
  [.int .i64 s.a, .int .i64 s.b, .int .i64 s.c, .int .i64 s.d, .int .i64 s.e, .int .i64 s.f, .int .i64 hand, .int .i64 j.kind, .int .i64 j.a, .int .i64 j.b, .int .i64 j.c, .int .u64 j.h, .int .i64 stt,
   .int .u64 r.r0, .int .u64 r.r1, .int .u64 r.r2, .int .u64 r.r3, .int .u64 r.r4, .int .u64 r.r5, .int .u64 r.r6, .int .u64 r.r7, .slice none 0 0, .bool an.ok, .int .u64 an.val, .int .u64 0, .int .u64 0, .int .u64 0, .int .u64 0]
def Shp.zero : Shp := ⟨0, 0, 0, 0, 0, 0⟩
def kept0 : Value := .agg #[.int .u64 0, .int .u64 0, .int .u64 0, .int .u64 0]
def tk0 : List Value := [.int .i64 0, .int .i64 0, .int .i64 0, .int .i64 0, .int .i64 0, .int .i64 0, .int .i64 0, .int .i64 0, .int .i64 0, .int .i64 0, .int .i64 0, .int .u64 0, .int .i64 0, .int .u64 0, .int .u64 0, .int .u64 0, .int .u64 0, .int .u64 0, .int .u64 0, .int .u64 0, .int .u64 0, .slice none 0 0, .bool false, .int .u64 0, .int .u64 0, .int .u64 0, .int .u64 0, .int .u64 0]
end
section
open Beg
variable {K : Kd} {rep : List Value → K.σ → Prop} {P : Par} {blk blk' : Rl → Nat} {c c' : Rl → Option Row} {st : St K} {un : Nat → Bool} {capw : Nat} {sv sv' : Value} {w : World} {base B : Nat} {aoh aos : Option Addr} {caph caps : Nat} {sh : Shp} {la : Int} {h : Nat} {x : Stp} {f' : Nat → Int} {cs : List Value}
def St.with (st : St K) (f' : Nat → Int) : St K := { st with f := f' }
theorem RGood.goesOn (G : RGood K rep P blk c (st.with f') un capw sv) (hh : h < P.nh) (hu : un h = true) (hx : stepOf P.n st.f (K.req (st.cur h)) = x) (hf : wordsOf P.n st.f (K.req (st.cur h)) = f')
    (hend : ¬ K.ends (st.cur h) x = true) (hk : IsTk cs) (hrep : rep cs (K.next (st.cur h) x))
    (hb : ∀ r, r ≠ .steps → blk' r = blk r) (hc : ∀ r, r ≠ .tasks → r ≠ .steps → c' r = c r) {T T' : Nat → Value} (eT : c .tasks = some ⟨59, P.nh * 28, T⟩) (eT' : c' .tasks = some ⟨59, P.nh * 28, T'⟩)
    (hT1 : ∀ i, ¬ (h * 28 ≤ i ∧ i < h * 28 + 28) → T' i = T i) (hT2 : ∀ i u, cs[i]? = some u → T' (h * 28 + i) = u)
    (GS : Grows blk' c' .steps 69 6 (st.k + 1) (stepCells st.s st.k ++ x.cells) sv') : RGood K rep P blk' c' (stepSt P st h) un capw sv' := by
  have hdone : (stepSt P st h).done = st.done := by simp only [stepSt, hx]; rw [if_neg hend]
  have hans : (stepSt P st h).ans = st.ans := by simp only [stepSt, hx]; rw [if_neg hend]
  have hcur : (stepSt P st h).cur = upd st.cur h (K.next (st.cur h) x) := by simp only [stepSt, hx]; rw [if_neg hend]
  have hf2 : (stepSt P st h).f = f' := by simp only [stepSt, hf]
  refine ⟨?_, ?_, ?_, ?_, ?_, ?_, ?_, ?_, ?_, ?_, ?_, G.jobs, G.hands, G.jwf, ?_⟩
  · rw [hc _ (by simp) (by simp), hf2]; exact G.words
  · rw [hf2]; exact G.word
  · obtain ⟨T0, eT0, hT0⟩ := G.tasks
    obtain rfl : T = T0 := by rw [eT] at eT0; cases eT0; rfl
    refine ⟨T', eT', fun i hi hui => ?_⟩
    rw [hcur]
    by_cases hih : i = h
    · subst hih; rw [upd_same]; exact ⟨cs, hk, hT2, hrep⟩
    · rw [upd_other _ _ hih]
      obtain ⟨cs', h1, h2, h3⟩ := hT0 i hi hui
      refine ⟨cs', h1, fun j u hu' => ?_, h3⟩
      have hj : j < 28 := by have := (List.getElem?_eq_some_iff.1 hu').1; have := h1.1; omega
      rw [hT1 _ (by omega)]; exact h2 j u hu'
  · rw [hc _ (by simp) (by simp)]; exact G.under
  · rw [hc _ (by simp) (by simp), hdone]; exact G.begun
  · rw [hc _ (by simp) (by simp)]; exact G.kept
  · obtain ⟨A, eA, hA⟩ := G.answers
    rw [hdone, hans]
    exact ⟨A, by rw [hc _ (by simp) (by simp)]; exact eA, fun i hi => by have := hA i hi; unfold Grows at this ⊢; rw [hc _ (by simp) (by simp), hb _ (by simp)]; exact this⟩
  · have : stepCells (stepSt P st h).s (stepSt P st h).k = stepCells st.s st.k ++ x.cells := by
      simp only [stepSt, hx, stepCells, upd_same]
      rw [stepCells_congr (b := st.s) (fun j hj => upd_other _ _ (by omega))]
    rw [this]; exact GS
  · rw [hdone]; exact G.doneLe
  · rw [hdone]; exact G.unLt
  · rw [hdone, hcur]
    intro i hi hui hl
    have hih : i ≠ h := by rintro rfl; rw [hu] at hui; cases hui
    rw [upd_other _ _ hih]; exact G.fresh i hi hui hl
  · simp only [stepSt]; omega
theorem RGood.ended (G : RGood K rep P blk c (st.with f') un capw sv) (hh : h < P.nh) (hu : un h = true) (hx : stepOf P.n st.f (K.req (st.cur h)) = x) (hf : wordsOf P.n st.f (K.req (st.cur h)) = f')
    (hend : K.ends (st.cur h) x = true)
    (hb : ∀ r, r ≠ .steps → r ≠ .arow h → blk' r = blk r) (hc : ∀ r, r ≠ .tasks → r ≠ .steps → r ≠ .arow h → r ≠ .going → r ≠ .mem → r ≠ .answers → c' r = c r) {T T' : Nat → Value} (eT : c .tasks = some ⟨59, P.nh * 28, T⟩) (eT' : c' .tasks = some ⟨59, P.nh * 28, T'⟩)
    (hT1 : ∀ i, ¬ (h * 28 ≤ i ∧ i < h * 28 + 28) → T' i = T i)
    {U U' : Nat → Value} (eU : c .going = some ⟨4, P.nh, U⟩) (eU' : c' .going = some ⟨4, P.nh, U'⟩) (hU' : ∀ i, U' i = if i = h then .bool false else U i)
    {Kf' : Nat → Value} (eK' : c' .mem = some ⟨57, P.nh * 4, Kf'⟩) (hK' : ∀ i, i < P.nh * 4 → Kf' i = .int .u64 0)
    {A A' : Nat → Value} (eA : c .answers = some ⟨76, P.nh, A⟩) (eA' : c' .answers = some ⟨76, P.nh, A'⟩) (hA' : ∀ i, i ≠ h → A' i = A i)
    (hAh : Grows blk' c' (.arow h) 56 2 (st.done h + 1) (ansCells (st.ans h) (st.done h) ++ (K.tell (K.next (st.cur h) x)).cells) (A' h))
    (GS : Grows blk' c' .steps 69 6 (st.k + 1) (stepCells st.s st.k ++ x.cells) sv') : RGood K rep P blk' c' (stepSt P st h) (upd un h false) capw sv' := by
  have hd := G.unLt h hh hu
  replace hd : st.done h < P.jn h := hd
  have hdone : (stepSt P st h).done = upd st.done h (st.done h + 1) := by simp only [stepSt, hx]; rw [if_pos hend]
  have hans : (stepSt P st h).ans = upd st.ans h (upd (st.ans h) (st.done h) (K.tell (K.next (st.cur h) x))) := by simp only [stepSt, hx]; rw [if_pos hend]
  have hcur : (stepSt P st h).cur = upd st.cur h (K.init h (P.jb h (st.done h + 1))) := by simp only [stepSt, hx]; rw [if_pos hend]
  have hf2 : (stepSt P st h).f = f' := by simp only [stepSt, hf]
  refine ⟨?_, ?_, ?_, ?_, ?_, ⟨Kf', eK', hK'⟩, ?_, ?_, ?_, ?_, ?_, G.jobs, G.hands, G.jwf, ?_⟩
  · rw [hc _ (by simp) (by simp) (by simp) (by simp) (by simp) (by simp), hf2]; exact G.words
  · rw [hf2]; exact G.word
  · obtain ⟨T0, eT0, hT0⟩ := G.tasks
    obtain rfl : T = T0 := by rw [eT] at eT0; cases eT0; rfl
    refine ⟨T', eT', fun i hi hui => ?_⟩
    have hih : i ≠ h := by rintro rfl; rw [upd_same] at hui; cases hui
    rw [upd_other _ _ hih] at hui
    rw [hcur, upd_other _ _ hih]
    obtain ⟨cs', h1, h2, h3⟩ := hT0 i hi hui
    refine ⟨cs', h1, fun j u hu' => ?_, h3⟩
    have hj : j < 28 := by have := (List.getElem?_eq_some_iff.1 hu').1; have := h1.1; omega
    rw [hT1 _ (by omega)]; exact h2 j u hu'
  · obtain ⟨U0, eU0, hU0⟩ := G.under
    obtain rfl : U = U0 := by rw [eU] at eU0; cases eU0; rfl
    refine ⟨U', eU', fun i hi => ?_⟩
    rw [hU' i]
    by_cases hih : i = h
    · subst hih; rw [if_pos rfl, upd_same]
    · rw [if_neg hih, upd_other _ _ hih]; exact hU0 i hi
  · obtain ⟨B0, eB0, hB0⟩ := G.begun
    refine ⟨B0, by rw [hc _ (by simp) (by simp) (by simp) (by simp) (by simp) (by simp)]; exact eB0, fun i hi => ?_⟩
    rw [hB0 i hi, hdone]
    by_cases hih : i = h
    · subst hih; simp [hu, St.with]
    · rw [upd_other _ _ hih, upd_other _ _ hih]; rfl
  · obtain ⟨A0, eA0, hA0⟩ := G.answers
    obtain rfl : A = A0 := by rw [eA] at eA0; cases eA0; rfl
    refine ⟨A', eA', fun i hi => ?_⟩
    rw [hdone, hans]
    by_cases hih : i = h
    · subst hih
      rw [upd_same, upd_same]
      have : ansCells (upd (st.ans i) (st.done i) (K.tell (K.next (st.cur i) x))) (st.done i + 1) = ansCells (st.ans i) (st.done i) ++ (K.tell (K.next (st.cur i) x)).cells := by
        simp only [ansCells, upd_same]
        rw [ansCells_congr (b := st.ans i) (fun j hj => upd_other _ _ (by omega))]
      rw [this]; exact hAh
    · rw [upd_other _ _ hih, upd_other _ _ hih, hA' i hih]
      have := hA0 i hi
      unfold Grows at this ⊢
      rw [hc _ (by simp) (by simp) (by simp [hih]) (by simp) (by simp) (by simp), hb _ (by simp) (by simp [hih])]
      exact this
  · have : stepCells (stepSt P st h).s (stepSt P st h).k = stepCells st.s st.k ++ x.cells := by
      simp only [stepSt, hx, stepCells, upd_same]
      rw [stepCells_congr (b := st.s) (fun j hj => upd_other _ _ (by omega))]
    rw [this]; exact GS
  · intro i hi
    rw [hdone]
    by_cases hih : i = h
    · subst hih; rw [upd_same]; omega
    · rw [upd_other _ _ hih]; exact G.doneLe i hi
  · intro i hi hui
    have hih : i ≠ h := by rintro rfl; rw [upd_same] at hui; cases hui
    rw [upd_other _ _ hih] at hui
    rw [hdone, upd_other _ _ hih]; exact G.unLt i hi hui
  · rw [hdone, hcur]
    intro i hi hui hl
    by_cases hih : i = h
    · subst hih; rw [upd_same, upd_same]
    · rw [upd_other _ _ hih] at hui hl ⊢
      rw [upd_other _ _ hih]
      exact G.fresh i hi hui hl
  · simp only [stepSt]; omega
def bare (c : Rl → Option Row) : Rl → Option Row := fun r => match r with | .task _ _ _ => none | r => c r
theorem Has.bare {w : World} {base : Nat} {blk : Rl → Nat} {c : Rl → Option Row} (h : Has w base blk c) : Has w base blk (bare c) := h.weaken (fun r x e => by
  cases r <;> first | exact e | cases e)
theorem RGood.bare (G : RGood K rep P blk c st un capw sv) : RGood K rep P blk (bare c) st un capw sv :=
  ⟨G.words, G.word, G.tasks, G.under, G.begun, G.kept, G.answers, G.steps, G.doneLe, G.unLt, G.fresh, G.jobs, G.hands, G.jwf, G.lastOk⟩
def lrow (l : List Value) : Nat → Value := fun i => l[i]?.getD default
theorem lrow_of {l : List Value} {i : Nat} {v : Value} (h : l[i]? = some v) : lrow l i = v := by simp [lrow, h]
end
section
theorem Grows.congr {blk blk' : Rl → Nat} {c c' : Rl → Option Row} {r : Rl} {e : TypeId} {sz k : Nat} {xs : List Value} {v : Value} (h : Grows blk c r e sz k xs v) (h1 : blk' r = blk r) (h2 : c' r = c r) : Grows blk' c' r e sz k xs v := by
  unfold Grows at h ⊢
  rw [h1, h2]
  exact h
variable {K : Kd} {P : Par} {blk blk' : Rl → Nat} {c c' : Rl → Option Row} {st : St K} {h : Nat} {x : Stp} {f' : Nat → Int}
theorem Good.goesOn (G : Good K P blk c st) (hK : K.Ok) (hh : h < P.nh) (hd : st.done h < P.jn h) (hx : stepOf P.n st.f (K.req (st.cur h)) = x) (hf : wordsOf P.n st.f (K.req (st.cur h)) = f')
    (hend : ¬ K.ends (st.cur h) x = true) (hw : ∀ i, i < P.n → 0 ≤ f' i ∧ f' i ≤ 18446744073709551615)
    (hb : ∀ r, r ≠ .steps → (∀ i, r ≠ .task h (st.done h) i) → blk' r = blk r) (hb0 : blk' (.task h (st.done h) 0) = blk (.task h (st.done h) 0)) (hc : ∀ r, r ≠ .steps → r ≠ .run → r ≠ .words → (∀ i, r ≠ .task h (st.done h) i) → c' r = c r)
    (eW : c' .words = some ⟨140, P.n, fun i => .int .u64 (f' i)⟩) (eK : K.lies (P.jb h (st.done h)) (fun i => blk' (.task h (st.done h) i)) (K.next (st.cur h) x) (fun i => c' (.task h (st.done h) i)))
    {RF : Nat → Value} (eR : c' .run = some ⟨164, 5, RF⟩) (R0 : RF 0 = .slice (some ⟨blk .tasks, 0, none⟩) P.nh P.nh) (R1 : RF 1 = .slice (some ⟨blk .going, 0, none⟩) P.nh P.nh) (R2 : RF 2 = .int .i64 h)
    (R4 : RF 4 = .slice (some ⟨blk .answers, 0, none⟩) P.nh P.nh) (R3 : Grows blk' c' .steps 69 6 (st.k + 1) (stepCells st.s st.k ++ x.cells) (RF 3)) : Good K P blk' c' (stepSt P st h) := by
  have hdone : (stepSt P st h).done = st.done := by simp only [stepSt, hx]; rw [if_neg hend]
  have hans : (stepSt P st h).ans = st.ans := by simp only [stepSt, hx]; rw [if_neg hend]
  have hcur : (stepSt P st h).cur = upd st.cur h (K.next (st.cur h) x) := by simp only [stepSt, hx]; rw [if_neg hend]
  have hgo : (stepSt P st h).going P = st.going P := by funext i; simp only [St.going, hdone]
  refine ⟨?_, ?_, G.most, ?_, ?_, ?_, ?_, ?_, ?_, ?_, ?_, G.jobs, G.hands, ?_, G.jwf, ?_⟩
  · rw [hc _ (by simp) (by simp) (by simp) (by simp), hb _ (by simp) (by simp)]; exact G.mem
  · rw [eW]; simp only [stepSt, hf]
  · simp only [stepSt, hf]; exact hw
  · refine ⟨RF 3, RF, eR, by rw [hb _ (by simp) (by simp)]; exact R0, by rw [hb _ (by simp) (by simp)]; exact R1, R2, rfl, by rw [hb _ (by simp) (by simp)]; exact R4, ?_⟩
    have : stepCells (stepSt P st h).s (stepSt P st h).k = stepCells st.s st.k ++ x.cells := by
      simp only [stepSt, hx, stepCells, upd_same]
      rw [stepCells_congr (b := st.s) (fun j hj => upd_other _ _ (by omega))]
    rw [this]; exact R3
  · obtain ⟨T, eT, hT⟩ := G.tasks
    refine ⟨T, by rw [hc _ (by simp) (by simp) (by simp) (by simp)]; exact eT, ?_⟩
    rw [hdone]
    intro i hi
    rw [hb _ (by simp) (by simp)]
    exact hT i hi
  · obtain ⟨Gf, eG, hG⟩ := G.going
    exact ⟨Gf, by rw [hc _ (by simp) (by simp) (by simp) (by simp)]; exact eG, by rw [hgo]; exact hG⟩
  · obtain ⟨A, eA, hA⟩ := G.answers
    refine ⟨A, by rw [hc _ (by simp) (by simp) (by simp) (by simp)]; exact eA, ?_⟩
    rw [hdone, hans]
    exact fun i hi => (hA i hi).congr (hb _ (by simp) (by simp)) (hc _ (by simp) (by simp) (by simp) (by simp))
  · intro i hi hj
    obtain ⟨cap, F, e1, e2, e3⟩ := G.trow i hi hj
    exact ⟨cap, F, by rw [hc _ (by simp) (by simp) (by simp) (by simp)]; exact e1, e2, fun j hj => by
      have e : blk' (.task i j 0) = blk (.task i j 0) := by
        by_cases e : i = h ∧ j = st.done h
        · obtain ⟨rfl, rfl⟩ := e; exact hb0
        · exact hb _ (by simp) (fun q hq => e (by cases hq; exact ⟨rfl, rfl⟩))
      rw [e]; exact e3 j hj⟩
  · intro i hi j h1 h2
    rw [hdone] at h1 ⊢
    rw [hcur]
    by_cases hih : i = h
    · subst hih
      by_cases hj : j = st.done i
      · subst hj; rw [if_pos rfl, upd_same]; exact eK
      · have eb : (fun i' => blk' (.task i j i')) = fun i' => blk (.task i j i') := funext fun i' => hb _ (by simp) (by simp [hj])
        have ec : (fun i' => c' (.task i j i')) = fun i' => c (.task i j i') := funext fun i' => hc _ (by simp) (by simp) (by simp) (by simp [hj])
        rw [if_neg hj, ec, eb]
        have := G.task i hi j h1 h2
        rwa [if_neg hj] at this
    · have eb : (fun i' => blk' (.task i j i')) = fun i' => blk (.task i j i') := funext fun i' => hb _ (by simp) (by simp [hih])
      have ec : (fun i' => c' (.task i j i')) = fun i' => c (.task i j i') := funext fun i' => hc _ (by simp) (by simp) (by simp) (by simp [hih])
      rw [upd_other _ _ hih, ec, eb]
      exact G.task i hi j h1 h2
  · rw [hdone]; exact G.doneLe
  · rw [hdone, hcur]
    intro i hi hl
    by_cases hih : i = h
    · subst hih; rw [upd_same]; have hend' := hend; rw [← hx] at hend' ⊢; exact hK.next _ _ _ _ G.word (G.wf i hi hl) hend'
    · rw [upd_other _ _ hih]; exact G.wf i hi hl
  · simp only [stepSt]; omega
theorem Good.ended (G : Good K P blk c st) (hK : K.Ok) (hh : h < P.nh) (hd : st.done h < P.jn h) (hx : stepOf P.n st.f (K.req (st.cur h)) = x) (hf : wordsOf P.n st.f (K.req (st.cur h)) = f')
    (hend : K.ends (st.cur h) x = true) (hw : ∀ i, i < P.n → 0 ≤ f' i ∧ f' i ≤ 18446744073709551615)
    (hb : ∀ r, r ≠ .steps → r ≠ .arow h → (∀ i, r ≠ .task h (st.done h) i) → blk' r = blk r) (hb0 : blk' (.task h (st.done h) 0) = blk (.task h (st.done h) 0))
    (hc : ∀ r, r ≠ .steps → r ≠ .run → r ≠ .words → (∀ i, r ≠ .task h (st.done h) i) → r ≠ .arow h → r ≠ .answers → r ≠ .tasks → r ≠ .going → c' r = c r)
    (eW : c' .words = some ⟨140, P.n, fun i => .int .u64 (f' i)⟩)
    {RF : Nat → Value} (eR : c' .run = some ⟨164, 5, RF⟩) (R0 : RF 0 = .slice (some ⟨blk .tasks, 0, none⟩) P.nh P.nh) (R1 : RF 1 = .slice (some ⟨blk .going, 0, none⟩) P.nh P.nh) (R2 : RF 2 = .int .i64 h)
    (R4 : RF 4 = .slice (some ⟨blk .answers, 0, none⟩) P.nh P.nh) (R3 : Grows blk' c' .steps 69 6 (st.k + 1) (stepCells st.s st.k ++ x.cells) (RF 3))
    {T T' : Nat → Value} (eT : c .tasks = some ⟨184, P.nh, T⟩) (eT' : c' .tasks = some ⟨184, P.nh, T'⟩) (hT' : ∀ i, i ≠ h → T' i = T i) {ao : Option Addr} {tc : Nat} (hTh : T' h = .slice ao (P.jn h - (st.done h + 1)) tc)
    (hao : st.done h + 1 < P.jn h → ao = some ⟨blk (.trow h), st.done h + 1, none⟩ ∧ P.jn h - (st.done h + 1) ≤ tc)
    {Gf Gf' : Nat → Value} (eG : c .going = some ⟨4, P.nh, Gf⟩) (eG' : c' .going = some ⟨4, P.nh, Gf'⟩) (hG' : ∀ i, i ≠ h → Gf' i = Gf i) (hGh : Gf' h = .bool (decide (st.done h + 1 < P.jn h)))
    {A A' : Nat → Value} (eA : c .answers = some ⟨76, P.nh, A⟩) (eA' : c' .answers = some ⟨76, P.nh, A'⟩) (hA' : ∀ i, i ≠ h → A' i = A i)
    (hAh : Grows blk' c' (.arow h) 56 2 (st.done h + 1) (ansCells (st.ans h) (st.done h) ++ (K.tell (K.next (st.cur h) x)).cells) (A' h)) : Good K P blk' c' (stepSt P st h) := by
  have hdone : (stepSt P st h).done = upd st.done h (st.done h + 1) := by simp only [stepSt, hx]; rw [if_pos hend]
  have hans : (stepSt P st h).ans = upd st.ans h (upd (st.ans h) (st.done h) (K.tell (K.next (st.cur h) x))) := by simp only [stepSt, hx]; rw [if_pos hend]
  have hcur : (stepSt P st h).cur = upd st.cur h (K.init h (P.jb h (st.done h + 1))) := by simp only [stepSt, hx]; rw [if_pos hend]
  have d1 : ∀ i, i ≠ h → (stepSt P st h).done i = st.done i := fun i hi => by rw [hdone, upd_other _ _ hi]
  have d2 : (stepSt P st h).done h = st.done h + 1 := by rw [hdone, upd_same]
  refine ⟨?_, ?_, G.most, ?_, ?_, ?_, ?_, ?_, ?_, ?_, ?_, G.jobs, G.hands, ?_, G.jwf, ?_⟩
  · rw [hc _ (by simp) (by simp) (by simp) (by simp) (by simp) (by simp) (by simp) (by simp), hb _ (by simp) (by simp) (by simp)]; exact G.mem
  · rw [eW]; simp only [stepSt, hf]
  · simp only [stepSt, hf]; exact hw
  · refine ⟨RF 3, RF, eR, by rw [hb _ (by simp) (by simp) (by simp)]; exact R0, by rw [hb _ (by simp) (by simp) (by simp)]; exact R1, R2, rfl, by rw [hb _ (by simp) (by simp) (by simp)]; exact R4, ?_⟩
    have : stepCells (stepSt P st h).s (stepSt P st h).k = stepCells st.s st.k ++ x.cells := by
      simp only [stepSt, hx, stepCells, upd_same]
      rw [stepCells_congr (b := st.s) (fun j hj => upd_other _ _ (by omega))]
    rw [this]; exact R3
  · obtain ⟨T0, eT0, hT0⟩ := G.tasks
    obtain rfl : T = T0 := by rw [eT] at eT0; cases eT0; rfl
    refine ⟨T', eT', fun i hi => ?_⟩
    rw [hb _ (by simp) (by simp) (by simp)]
    by_cases hih : i = h
    · subst hih
      rw [d2, hTh]
      refine ⟨fun hl => ?_, fun he => ⟨ao, tc, by rw [he, Nat.sub_self]⟩⟩
      obtain ⟨e, hle⟩ := hao hl
      exact ⟨tc, hle, by rw [e]⟩
    · rw [d1 i hih, hT' i hih]
      exact hT0 i hi
  · obtain ⟨G0, eG0, hG0⟩ := G.going
    obtain rfl : Gf = G0 := by rw [eG] at eG0; cases eG0; rfl
    refine ⟨Gf', eG', fun i hi => ?_⟩
    by_cases hih : i = h
    · subst hih
      rw [hGh]; simp only [St.going, d2]
    · rw [hG' i hih, hG0 i hi]; simp only [St.going, d1 i hih]
  · obtain ⟨A0, eA0, hA0⟩ := G.answers
    obtain rfl : A = A0 := by rw [eA] at eA0; cases eA0; rfl
    refine ⟨A', eA', fun i hi => ?_⟩
    by_cases hih : i = h
    · subst hih
      rw [d2]
      have : ansCells ((stepSt P st i).ans i) (st.done i + 1) = ansCells (st.ans i) (st.done i) ++ (K.tell (K.next (st.cur i) x)).cells := by
        rw [hans, upd_same]
        simp only [ansCells, upd_same]
        rw [ansCells_congr (b := st.ans i) (fun j hj => upd_other _ _ (by omega))]
      rw [this]; exact hAh
    · rw [d1 i hih, hA' i hih, hans, upd_other _ _ hih]
      exact (hA0 i hi).congr (hb _ (by simp) (by simp [hih]) (by simp)) (hc _ (by simp) (by simp) (by simp) (by simp) (by simp [hih]) (by simp) (by simp) (by simp))
  · intro i hi hj
    obtain ⟨cap, F, e1, e2, e3⟩ := G.trow i hi hj
    exact ⟨cap, F, by rw [hc _ (by simp) (by simp) (by simp) (by simp) (by simp) (by simp) (by simp) (by simp)]; exact e1, e2, fun j hj => by
      have e : blk' (.task i j 0) = blk (.task i j 0) := by
        by_cases e : i = h ∧ j = st.done h
        · obtain ⟨rfl, rfl⟩ := e; exact hb0
        · exact hb _ (by simp) (by simp) (fun q hq => e (by cases hq; exact ⟨rfl, rfl⟩))
      rw [e]; exact e3 j hj⟩
  · intro i hi j h1 h2
    rw [hcur]
    by_cases hih : i = h
    · subst hih
      rw [d2] at h1 ⊢
      have hne : ∀ i', Rl.task i j i' ≠ .task i (st.done i) 0 ∧ ∀ q, Rl.task i j i' ≠ .task i (st.done i) q := fun i' => ⟨by simp; omega, fun q => by simp; omega⟩
      have eb : (fun i' => blk' (.task i j i')) = fun i' => blk (.task i j i') := funext fun i' => hb _ (by simp) (by simp) (hne i').2
      have ec : (fun i' => c' (.task i j i')) = fun i' => c (.task i j i') := funext fun i' => hc _ (by simp) (by simp) (by simp) (hne i').2 (by simp) (by simp) (by simp) (by simp)
      rw [upd_same, ec, eb]
      have := G.task i hi j (by omega) h2
      rw [if_neg (by omega)] at this
      split
      · rename_i e; rw [← e]; exact this
      · exact this
    · rw [d1 i hih] at h1 ⊢
      have eb : (fun i' => blk' (.task i j i')) = fun i' => blk (.task i j i') := funext fun i' => hb _ (by simp) (by simp) (by simp [hih])
      have ec : (fun i' => c' (.task i j i')) = fun i' => c (.task i j i') := funext fun i' => hc _ (by simp) (by simp) (by simp) (by simp [hih]) (by simp) (by simp) (by simp) (by simp)
      rw [upd_other _ _ hih, ec, eb]
      exact G.task i hi j h1 h2
  · intro i hi
    by_cases hih : i = h
    · subst hih; rw [d2]; omega
    · rw [d1 i hih]; exact G.doneLe i hi
  · rw [hcur]
    intro i hi hl
    by_cases hih : i = h
    · subst hih; rw [d2] at hl ⊢; rw [upd_same]; exact hK.init _ _ (G.jwf i hi _ hl)
    · rw [upd_other _ _ hih]; rw [d1 i hih] at hl ⊢; exact G.wf i hi hl
  · simp only [stepSt]; omega
end
section
set_option linter.unusedSectionVars false
theorem Good.isMem {K : Kd} {P : Par} {blk : Rl → Nat} {c : Rl → Option Row} {st : St K} {w : World} {base : Nat} (G : Good K P blk c st) (H : Has w base blk c) : IsMem w (blk .mem) (blk .words) P.n st.f :=
  ⟨H.row _ _ G.mem, H.row _ _ G.words, G.most, G.word⟩
theorem Grows.upd {blk : Rl → Nat} {c : Rl → Option Row} {r r' : Rl} {e : TypeId} {sz k : Nat} {xs : List Value} {v : Value} (h : Grows blk c r e sz k xs v) (hne : r ≠ r') (x : Option Row) (nb : Nat) : Grows (upd blk r' nb) (upd c r' x) r e sz k xs v := by
  unfold Grows at h ⊢
  rw [upd_other _ _ hne, upd_other _ _ hne]
  exact h
theorem Grows.upd' {blk : Rl → Nat} {c : Rl → Option Row} {r r' : Rl} {e : TypeId} {sz k : Nat} {xs : List Value} {v : Value} (h : Grows blk c r e sz k xs v) (hne : r ≠ r') (x : Option Row) : Grows blk (YtppgbndoijppnaaGreat.upd c r' x) r e sz k xs v := by
  unfold Grows at h ⊢
  rw [upd_other _ _ hne]
  exact h
theorem info48z : (Tryz.prog.info? 69).map (fun i => (i.zero, i.size, i.bytes)) = some (some (.agg #[.int .i64 0, .int .i64 0, .int .i64 0, .int .u64 0, .int .u64 0, .bool false]), 6, 48) := by kernel_rfl
theorem info54z : (Tryz.prog.info? 56).map (fun i => (i.zero, i.size, i.bytes)) = some (some (.agg #[.bool false, .int .u64 0]), 2, 16) := by kernel_rfl
theorem cells_new (w : World) (vs : Array Value) (t : TypeId) : ∀ j u, vs.toList[j]? = some u → (w.alloc (.cells vs t)).cell? (Addr.add ⟨w.heap.size, 0, none⟩ j) = some u := by
  intro j u hj
  have hj' : vs[j]? = some u := by simpa using hj
  simp only [Addr.add, Nat.zero_add]
  by_cases h0 : j = 0
  · subst h0; simp [hj']
  · simp [h0, hj']
theorem step_one (x : Stp) : ∀ u ∈ x.cells, u.oneCell' = true := by
  intro u hu
  simp [Stp.cells] at hu
  rcases hu with rfl | rfl | rfl | rfl | rfl | rfl <;> rfl
theorem ans_one (x : Ans) : ∀ u ∈ x.cells, u.oneCell' = true := by
  intro u hu
  simp [Ans.cells] at hu
  rcases hu with rfl | rfl <;> rfl
theorem below_of_grown_none {a b : World} (h : a.grownBy b none) (B : Nat) (hB : B ≤ a.heap.size) : Below B a b := ⟨h.os, h.tape, h.output, h.size, fun k hk => h.block k (by omega) (by simp)⟩
end
section
open Beg
variable {K : Kd} {rep : List Value → K.σ → Prop} {P : Par} {blk blk' : Rl → Nat} {c c' : Rl → Option Row} {st : St K} {un : Nat → Bool} {capw : Nat} {sv sv' : Value} {w : World} {base B : Nat} {aoh aos : Option Addr} {caph caps : Nat} {sh : Shp} {la : Int} {h : Nat} {x : Stp} {f' : Nat → Int} {cs : List Value}
def Own (blk : Rl → Nat) (c : Rl → Option Row) : Nat → Prop := fun k => ∃ r y, c r = some y ∧ blk r = k
def zRun : List Value := [.int .i64 0, .int .i64 0, .int .i64 0, .int .i64 0, .int .i64 0, .int .i64 0, .slice none 0 0, .slice none 0 0, .slice none 0 0, .slice none 0 0, .slice none 0 0, .slice none 0 0, .slice none 0 0, .slice none 0 0, .int .i64 0]
theorem Has.setCells {w : World} {base : Nat} {blk : Rl → Nat} {c : Rl → Option Row} {r : Rl} {t : TypeId} {n : Nat} {F : Nat → Value} (H : Has w base blk c) (e : c r = some ⟨t, n, F⟩) (o : Nat) (vs : List Value) :
    Has (w.setCells (blk r) o vs) base blk (upd c r (some ⟨t, n, fun i => if o ≤ i ∧ i < o + vs.length then vs[i - o]?.getD default else F i⟩)) :=
  H.write r _ e (touch_setCells _ _ _ _) (rowIs.setCells vs o w F (H.row _ _ e))
end
end Go.Proofs.YtppgbndoijppnaaGreat
