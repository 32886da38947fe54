/-
  Lemmas: RLaid.
-/
import Derived.Test.YtchhkoalibapiaaTp09
import Derived.Deep.Light
/-
  The reference's run: a task laid under way, a step done, what is told.
-/
namespace Go.Proofs.Ytchhkoalibapiaa
open Go.RowKit
set_option linter.unusedVariables false
set_option linter.unusedSimpArgs false
set_option linter.unnecessarySimpa false
set_option maxRecDepth 20000
open Beg

theorem size79 : (Try.prog.info? 84).map (·.size) = some 28 := by kernel_rfl
theorem row79 : ∃ d, Try.prog.underlying 84 = some d ∧ d.isRow = true := by
  have h : (Try.prog.underlying 84).map (fun d => d.isRow) = some true := by kernel_rfl
  exact Option.map_eq_some_iff.1 h

theorem rangeAt_block {w w' : World} {b o : Nat} {cs : List Value} (h : w.rangeAt b o cs) (e : w'.heap[b]? = w.heap[b]?) : w'.rangeAt b o cs := fun j v hv => by
  rw [World.cell?_of_block (a := ⟨b, o + j, none⟩) e]; exact h j v hv
theorem there_block {w w' : World} {b o n : Nat} (h : w.there b o n) (e : w'.heap[b]? = w.heap[b]?) : w'.there b o n := fun j hj => by
  rw [World.cell?_of_block (a := ⟨b, o + j, none⟩) e, World.frozen?_of_block (a := ⟨b, o + j, none⟩) e]; exact h j hj
theorem rowIs.there {w : World} {b n o m : Nat} {t : TypeId} {f : Nat → Value} (h : w.rowIs b t n f) (hm : o + m ≤ n) : w.there b o m := fun j hj =>
  ⟨by rw [h.cell (i := o + j) (by omega)]; rfl, h.frozen _⟩
theorem rowIs.setCells {b n : Nat} {t : TypeId} : ∀ (vs : List Value) (o : Nat) (w : World) (f : Nat → Value), w.rowIs b t n f → (w.setCells b o vs).rowIs b t n (fun i => if o ≤ i ∧ i < o + vs.length then vs[i - o]?.getD default else f i)
  | [], o, w, f, h => h.congr (fun i hi => by simp; intros; omega)
  | v :: r, o, w, f, h => by
    rw [World.setCells]
    refine (rowIs.setCells r (o + 1) _ _ (h.set o v)).congr (fun i hi => ?_)
    by_cases h1 : i = o
    · subst h1; simp; intro h3; omega
    · by_cases h2 : o + 1 ≤ i ∧ i < o + 1 + r.length
      · rw [if_pos h2, if_pos (by simp; omega)]
        have : i - o = (i - (o + 1)) + 1 := by omega
        rw [this]; simp
      · rw [if_neg h2]; simp only [h1, if_false]; rw [if_neg (by simp only [List.length_cons]; omega)]

section
variable {Q : Program} {fn : Func} {tmps : Array Value} {W : World} {v u : Value} {a a' : Addr} {t t' t'' : Nat} {ty ty' : TypeId}
theorem results_c (hf : fn.results = #[.cell t ty]) (ht : tmps.getD t undef = .pointer (some a)) (hl : (loadVar ty a).run Q W = .ok v W) : (results fn tmps).run Q W = .ok v W := by
  have ha : (asAddr (.pointer (some a))).run Q W = .ok a W := rfl
  unfold results
  rw [hf]
  simp only [Array.mapM_eq_mapM_toList, List.mapM_cons, List.mapM_nil, ht, Sem.run_bind, ha, hl, Result.andThen_ok, Sem.run_pure, bind_assoc, pure_bind, map_eq_pure_bind]
  rfl
theorem results_ct (hf : fn.results = #[.cell t ty, .tmp t']) (ht : tmps.getD t undef = .pointer (some a)) (hl : (loadVar ty a).run Q W = .ok v W) : (results fn tmps).run Q W = .ok (.tuple #[v, tmps.getD t' undef]) W := by
  have ha : (asAddr (.pointer (some a))).run Q W = .ok a W := rfl
  unfold results
  rw [hf]
  simp only [Array.mapM_eq_mapM_toList, List.mapM_cons, List.mapM_nil, ht, Sem.run_bind, ha, hl, Result.andThen_ok, Sem.run_pure, bind_assoc, pure_bind, map_eq_pure_bind]
  rfl
theorem results_cct (hf : fn.results = #[.cell t ty, .cell t' ty', .tmp t'']) (ht : tmps.getD t undef = .pointer (some a)) (hl : (loadVar ty a).run Q W = .ok v W) (ht' : tmps.getD t' undef = .pointer (some a')) (hl' : (loadVar ty' a').run Q W = .ok u W) : (results fn tmps).run Q W = .ok (.tuple #[v, u, tmps.getD t'' undef]) W := by
  have ha : (asAddr (.pointer (some a))).run Q W = .ok a W := rfl
  have ha' : (asAddr (.pointer (some a'))).run Q W = .ok a' W := rfl
  unfold results
  rw [hf]
  simp only [Array.mapM_eq_mapM_toList, List.mapM_cons, List.mapM_nil, ht, ht', Sem.run_bind, ha, hl, ha', hl', Result.andThen_ok, Sem.run_pure, bind_assoc, pure_bind, map_eq_pure_bind]
  rfl
end
theorem rangeAt_setOther {w : World} {b o : Nat} {cs : List Value} (h : w.rangeAt b o cs) {a : Addr} (ha : b ≠ a.block) (v : Value) : (w.setCell a v).rangeAt b o cs := rangeAt_block h (Below.heap_setCell _ _ _ _ ha)
theorem there_setOther {w : World} {b o n : Nat} (h : w.there b o n) {a : Addr} (ha : b ≠ a.block) (v : Value) : (w.setCell a v).there b o n := there_block h (Below.heap_setCell _ _ _ _ ha)

variable {K : Kd} {rep : List Value → K.σ → Prop} {P : Par} {blk : Rl → Nat} {c : Rl → Option Row} {st : St K} {un : Nat → Bool} {capw : Nat} {sv : Value} {w : World} {base B : Nat} {aoh aos : Option Addr} {caph caps : Nat} {sh : Shp} {la : Int}

/-- A task laid under way: the state is as it was. -/
theorem RGood.laid (G : RGood K rep P blk c st un capw sv) {c' : Rl → Option Row} {h : Nat} {cs : List Value} (hh : h < P.nh) (hu : un h = false) (hd : st.done h < P.jn h) (hk : IsTk cs) (hrep : rep cs (st.cur h))
    (hc : ∀ r, r ≠ .tasks → r ≠ .going → r ≠ .run → c' r = c r) {T T' : Nat → Value} (eT : c .tasks = some ⟨84, P.nh * 28, T⟩) (eT' : c' .tasks = some ⟨84, P.nh * 28, T'⟩)
    (hT1 : ∀ i, ¬ (h * 28 ≤ i ∧ i < h * 28 + 28) → T' i = T i) (hT2 : ∀ i u, cs[i]? = some u → T' (h * 28 + i) = u)
    {U U' : Nat → Value} (eU : c .going = some ⟨4, P.nh, U⟩) (eU' : c' .going = some ⟨4, P.nh, U'⟩) (hU' : ∀ i, U' i = if i = h then .bool true else U i)
    {Bf Bf' : Nat → Value} (eB : c .run = some ⟨3, P.nh, Bf⟩) (eB' : c' .run = some ⟨3, P.nh, Bf'⟩) (hB' : ∀ i, Bf' i = if i = h then .int .i64 ((st.done h + 1 : Nat) : Int) else Bf i) :
    RGood K rep P blk c' st (upd un h true) capw sv := by
  refine ⟨?_, G.word, ?_, ?_, ?_, ?_, ?_, ?_, G.doneLe, ?_, ?_, G.jobs, G.hands, G.jwf, G.lastOk⟩
  · rw [hc _ (by simp) (by simp) (by simp)]; exact G.words
  · obtain ⟨T0, eT0, hT0⟩ := G.tasks
    obtain rfl : T = T0 := by rw [eT] at eT0; cases eT0; rfl
    refine ⟨T', eT', fun i hi hui => ?_⟩
    by_cases hih : i = h
    · subst hih; exact ⟨cs, hk, hT2, hrep⟩
    · rw [upd_other _ _ hih] at hui
      obtain ⟨cs', h1, h2, h3⟩ := hT0 i hi hui
      refine ⟨cs', h1, fun j u hu' => ?_, h3⟩
      have hj : j < 28 := by have := (List.getElem?_eq_some_iff.1 hu').1; have := h1.1; omega
      rw [hT1 _ (by omega)]; exact h2 j u hu'
  · obtain ⟨U0, eU0, hU0⟩ := G.under
    obtain rfl : U = U0 := by rw [eU] at eU0; cases eU0; rfl
    refine ⟨U', eU', fun i hi => ?_⟩
    rw [hU' i]
    by_cases hih : i = h
    · subst hih; rw [if_pos rfl, upd_same]
    · rw [if_neg hih, upd_other _ _ hih]; exact hU0 i hi
  · obtain ⟨B0, eB0, hB0⟩ := G.begun
    obtain rfl : Bf = B0 := by rw [eB] at eB0; cases eB0; rfl
    refine ⟨Bf', eB', fun i hi => ?_⟩
    rw [hB' i]
    by_cases hih : i = h
    · subst hih; simp
    · rw [if_neg hih, upd_other _ _ hih]; exact hB0 i hi
  · rw [hc _ (by simp) (by simp) (by simp)]; exact G.kept
  · obtain ⟨A, eA, hA⟩ := G.answers
    exact ⟨A, by rw [hc _ (by simp) (by simp) (by simp)]; exact eA, fun i hi => by have := hA i hi; unfold Grows at this ⊢; rw [hc _ (by simp) (by simp) (by simp)]; exact this⟩
  · have := G.steps; unfold Grows at this ⊢; rw [hc _ (by simp) (by simp) (by simp)]; exact this
  · intro i hi hui
    by_cases hih : i = h
    · subst hih; exact hd
    · rw [upd_other _ _ hih] at hui; exact G.unLt i hi hui
  · intro i hi hui
    by_cases hih : i = h
    · subst hih; rw [upd_same] at hui; cases hui
    · rw [upd_other _ _ hih] at hui; exact G.fresh i hi hui

set_option maxHeartbeats 4000000 in
theorem laid_any (G : RGood K rep P blk c st un capw sv) (H : Has w base blk c) {h : Nat} {cs : List Value} (hh : h < P.nh) (hu : un h = false) (hd : st.done h < P.jn h) (hk : IsTk cs) (hrep : rep cs (st.cur h)) :
    Calls Try.prog 30 #[rv sh P blk capw (.slice aoh P.nh caph) sv la, .int .i64 h, .agg cs.toArray] w fun e w' => e = .returned (rv sh P blk capw (.slice aoh P.nh caph) sv la) ∧
      ∃ c', Has w' base blk c' ∧ RGood K rep P blk c' st (upd un h true) capw sv ∧ Touch w w' (fun k => k = blk .tasks ∨ k = blk .going ∨ k = blk .run) := by
  obtain ⟨s0, s1, s2, s3, s4, s5⟩ := sh
  obtain ⟨sa, sc, rfl⟩ := G.steps.isSlice'
  have hnh := G.hands
  obtain ⟨T, eT, hT⟩ := G.tasks
  obtain ⟨U, eU, hU⟩ := G.under
  obtain ⟨Bf, eB, hBf⟩ := G.begun
  have hkl := hk.1
  obtain ⟨L, hL⟩ : ∃ L : List Value, L = [.int .i64 s0, .int .i64 s1, .int .i64 s2, .int .i64 s3, .int .i64 s4, .int .i64 s5, .slice (some ⟨blk .words, 0, none⟩) P.n capw, .slice aoh P.nh caph, .slice (some ⟨blk .tasks, 0, none⟩) P.nh P.nh, .slice (some ⟨blk .going, 0, none⟩) P.nh P.nh, .slice (some ⟨blk .run, 0, none⟩) P.nh P.nh, .slice (some ⟨blk .mem, 0, none⟩) P.nh P.nh, .slice sa st.k sc, .slice (some ⟨blk .answers, 0, none⟩) P.nh P.nh, .int .i64 la] := ⟨_, rfl⟩
  have hval : rv ⟨s0, s1, s2, s3, s4, s5⟩ P blk capw (.slice aoh P.nh caph) (.slice sa st.k sc) la = .agg L.toArray := by rw [hL]; rfl
  rw [hval]
  have hLl : L.length = 15 := by rw [hL]; rfl
  have hL1 : ∀ v ∈ L, v.oneCell' = true := by rw [hL]; simp [Value.oneCell']
  have LT := hide (fun r x e => H.lt (r := r) (x := x) e)
  have hlT := H.lt eT
  have hlU := H.lt eU
  have hlB := H.lt eB
  have nTU : blk .tasks ≠ blk .going := H.ne eT eU (by simp)
  have nTB : blk .tasks ≠ blk .run := H.ne eT eB (by simp)
  have nUB : blk .going ≠ blk .run := H.ne eU eB (by simp)
  obtain ⟨W3, hW3⟩ : ∃ W3, ((w.alloc (.cells L.toArray 78)).alloc (.cells cs.toArray 84)).alloc (.cells #[.int .i64 0, .int .i64 0, .int .i64 0, .int .i64 0, .int .i64 0, .int .i64 0, .slice none 0 0, .slice none 0 0, .slice none 0 0, .slice none 0 0, .slice none 0 0, .slice none 0 0, .slice none 0 0, .slice none 0 0, .int .i64 0] 78) = W3 := ⟨_, rfl⟩
  have T3 : Touch w W3 (fun _ => False) := by rw [← hW3]; exact (((Touch.refl w _).alloc _).alloc _).alloc _
  have hsz : W3.heap.size = w.heap.size + 3 := by rw [← hW3]; simp
  have rL : W3.rangeAt w.heap.size 0 L := by rw [← hW3]; exact World.rangeAt_alloc (World.rangeAt_alloc (cell_range (b := 0)) _) _
  have rK : W3.rangeAt (w.heap.size + 1) 0 cs := by
    rw [← hW3]
    have := World.rangeAt_alloc (cell_range (b := 0) (w := w.alloc (.cells L.toArray 78)) (t := 84) (cs := cs)) (.cells #[.int .i64 0, .int .i64 0, .int .i64 0, .int .i64 0, .int .i64 0, .int .i64 0, .slice none 0 0, .slice none 0 0, .slice none 0 0, .slice none 0 0, .slice none 0 0, .slice none 0 0, .slice none 0 0, .slice none 0 0, .int .i64 0] 78)
    simpa using this
  have thR : W3.there (w.heap.size + 2) 0 15 := by
    rw [← hW3]
    have := there_alloc_new (w := (w.alloc (.cells L.toArray 78)).alloc (.cells cs.toArray 84)) (t := 78) (cs := [.int .i64 0, .int .i64 0, .int .i64 0, .int .i64 0, .int .i64 0, .int .i64 0, .slice none 0 0, .slice none 0 0, .slice none 0 0, .slice none 0 0, .slice none 0 0, .slice none 0 0, .slice none 0 0, .slice none 0 0, .int .i64 0])
    simpa using this
  have H3 := H.touch T3 (fun _ _ _ => id)
  have HT3 := hide T3
  have HH3 := hide H3
  have HrL := hide rL
  have HrK := hide rK
  have HthR := hide thR
  have HW3 := hide hW3
  have HG := hide G
  have HHL := hide hL
  have HL1 := hide hL1
  have HK := hide hk
  have HREP := hide hrep
  have HBf := hide hBf
  have l8 : L[8]? = some (.slice (some ⟨blk .tasks, 0, none⟩) P.nh P.nh) := by rw [hL]; rfl
  have l9 : L[9]? = some (.slice (some ⟨blk .going, 0, none⟩) P.nh P.nh) := by rw [hL]; rfl
  have l10 : L[10]? = some (.slice (some ⟨blk .run, 0, none⟩) P.nh P.nh) := by rw [hL]; rfl
  have c8 := rL 8 _ l8
  have c9 := rL 9 _ l9
  have c10 := rL 10 _ l10
  simp only [Nat.zero_add] at c8 c9 c10
  obtain ⟨dT, hdT1, hdT2⟩ := row79
  obtain ⟨dR, hdR1, hdR2⟩ := row90
  have DT1 := hide hdT1
  have DT2 := hide hdT2
  have DR1 := hide hdR1
  have DR2 := hide hdR2
  have KL := hide hkl
  have LL := hide hLl
  have hhn : (h : Int) < (P.nh : Int) := by omega
  have hh0 : (0 : Int) ≤ (h : Int) := by omega
  have hd256 : (st.done h : Int) < 256 := by have := G.jobs h hh; omega
  have hd00 : (0 : Int) ≤ (st.done h : Int) := by omega
  have nNB : w.heap.size ≠ blk .run := by omega
  have nNU : w.heap.size ≠ blk .going := by omega
  have nNB2 : w.heap.size + 2 ≠ blk .run := by omega
  have nNU2 : w.heap.size + 2 ≠ blk .going := by omega
  have KEEP : Hid (∀ W4, W3.setCells (blk .tasks) (h * 28) cs.toArray.toList = W4 → (W4.cell? ⟨w.heap.size, 9, none⟩ = some (.slice (some ⟨blk .going, 0, none⟩) P.nh P.nh) ∧ W4.cell? ⟨w.heap.size, 10, none⟩ = some (.slice (some ⟨blk .run, 0, none⟩) P.nh P.nh) ∧ W4.cell? ⟨blk .run, h, none⟩ = some (.int .i64 (st.done h)) ∧ W4.frozen? ⟨blk .run, h, none⟩ = false ∧ W4.cell? ⟨blk .going, h, none⟩ = some (.bool false) ∧ W4.frozen? ⟨blk .going, h, none⟩ = false ∧ W4.rangeAt w.heap.size 0 L ∧ W4.there (w.heap.size + 2) 0 15 ∧
      ∃ T', Has W4 base blk (upd c .tasks (some ⟨84, P.nh * 28, T'⟩)) ∧ (∀ i, ¬ (h * 28 ≤ i ∧ i < h * 28 + 28) → T' i = T i) ∧ (∀ i u, cs[i]? = some u → T' (h * 28 + i) = u) ∧ Touch W3 W4 (fun k => k = blk .tasks))) := by
    intro W4 hW4
    have tt : Touch W3 W4 (fun k => k = blk .tasks) := by rw [← hW4]; exact touch_setCells _ _ _ _
    have q : ∀ p : Addr, p.block < W3.heap.size → p.block ≠ blk .tasks → W4.cell? p = W3.cell? p ∧ W4.frozen? p = W3.frozen? p := fun p h1 h2 => ⟨World.cell?_of_block (tt.block p.block h1 h2), World.frozen?_of_block (tt.block p.block h1 h2)⟩
    have nN : w.heap.size ≠ blk .tasks := by omega
    have nN2 : w.heap.size + 2 ≠ blk .tasks := by omega
    have qB := q ⟨blk .run, h, none⟩ (by show blk .run < _; omega) nTB.symm
    have qU := q ⟨blk .going, h, none⟩ (by show blk .going < _; omega) nTU.symm
    have cb := H3.cell eB (i := h) hh
    have cu := H3.cell eU (i := h) hh
    have hb0 := hBf h hh
    have hu0 := hU h hh
    simp only [hb0, hu, Bool.false_eq_true, if_false, Nat.add_zero] at cb
    simp only [hu0, hu] at cu
    refine ⟨?_, ?_, ?_, ?_, ?_, ?_, rangeAt_block rL (tt.block _ (by omega) nN), there_block thR (tt.block _ (by omega) nN2), ?_⟩
    · rw [(q ⟨w.heap.size, 9, none⟩ (by show w.heap.size < _; omega) nN).1]; exact c9
    · rw [(q ⟨w.heap.size, 10, none⟩ (by show w.heap.size < _; omega) nN).1]; exact c10
    · rw [qB.1]; exact cb
    · rw [qB.2]; exact H3.frozen eB h
    · rw [qU.1]; exact cu
    · rw [qU.2]; exact H3.frozen eU h
    · have rr := rowIs.setCells cs (h * 28) W3 T (H3.row _ _ eT)
      have hW4' : W3.setCells (blk .tasks) (h * 28) cs = W4 := by simpa using hW4
      rw [hW4'] at rr
      refine ⟨_, H3.write .tasks ⟨84, P.nh * 28, fun i => if h * 28 ≤ i ∧ i < h * 28 + cs.length then cs[i - h * 28]?.getD default else T i⟩ eT tt rr, fun i hi => ?_, fun i u hui => ?_, tt⟩
      · rw [if_neg (by rw [hkl]; exact hi)]
      · have hi := (List.getElem?_eq_some_iff.1 hui).1
        rw [if_pos (by omega), show h * 28 + i - h * 28 = i by omega, hui]; rfl
  have HthT := hide (rowIs.there (o := h * 28) (m := 28) (H3.row _ _ eT) (by show h * 28 + 28 ≤ P.nh * 28; omega))
  clear G H H3 T3 rL rK thR hL hL1 hk hrep hBf hT hU hval hdT1 hdT2 hdR1 hdR2 hkl hLl
  go_enter Try.func30, Try.ntmps30
  go_wp2_with (first
    | (refine wpList_load_mid (by rfl) 84 (.tmp 5) (by rfl) (w.heap.size + 1) 0 (by rfl) cs dT (by exact HrK.out) (by exact DT1.out) (by exact DT2.out) (by rw [KL.out]; exact size79) ?_)
    | (refine wpList_store_mid (by rfl) 84 (.tmp 11) (.tmp 10) (by rfl) (blk .tasks) (h * 28) cs.toArray (by rfl) (by rfl) (by simpa [KL.out] using HthT.out) (by simpa [KL.out] using size79) (by exact all_oneCell_toArray HK.out.2) ?_; obtain ⟨W4, hW4⟩ : ∃ W4, W3.setCells (blk .tasks) (h * 28) cs.toArray.toList = W4 := ⟨_, rfl⟩; rw [hW4]; have KP := hide (KEEP.out W4 hW4); clear hW4; have k1 := KP.out.1; have k2 := KP.out.2.1; have k3 := KP.out.2.2.1; have k4 := KP.out.2.2.2.1; have k5 := KP.out.2.2.2.2.1; have k6 := KP.out.2.2.2.2.2.1)
    | (refine wpList_load_mid (by rfl) 78 (.tmp 3) (by rfl) w.heap.size 0 (by rfl) L dR (by exact rangeAt_setOther (rangeAt_setOther KP.out.2.2.2.2.2.2.1 nNB _) nNU _) (by exact DR1.out) (by exact DR2.out) (by rw [LL.out]; exact size90) ?_)
    | (refine wpList_store_mid (by rfl) 78 (.tmp 6) (.tmp 23) (by rfl) (w.heap.size + 2) 0 L.toArray (by rfl) (by rfl) (by simpa [LL.out] using (there_setOther (there_setOther KP.out.2.2.2.2.2.2.2.1 nNB2 _) nNU2 _)) (by simpa [LL.out] using size90) (by exact all_oneCell_toArray HL1.out) ?_))
  obtain ⟨_, _, _, _, _, _, rL4, thR4, T', H4, hT1, hT2, tt4⟩ := KP.out
  have H5 := H4.set .run (x0 := ⟨3, P.nh, Bf⟩) (by rw [upd_other _ _ (by simp)]; exact eB) h (.int .i64 ((st.done h : Int) + 1))
  have H6 := H5.set .going (x0 := ⟨4, P.nh, U⟩) (by rw [upd_other _ _ (by simp), upd_other _ _ (by simp)]; exact eU) h (.bool true)
  have thR6 := there_setOther (a := ⟨blk .going, h, none⟩) (there_setOther (a := ⟨blk .run, h, none⟩) thR4 nNB2 (.int .i64 ((st.done h : Int) + 1))) nNU2 (.bool true)
  have tt6 : Touch W4 ((W4.setCell ⟨blk .run, h, none⟩ (.int .i64 ((st.done h : Int) + 1))).setCell ⟨blk .going, h, none⟩ (.bool true)) (fun k => k = blk .going ∨ k = blk .run) := ((Touch.refl W4 _).setCell ⟨blk .run, h, none⟩ (.inl (.inr rfl)) _).setCell ⟨blk .going, h, none⟩ (.inl (.inl rfl)) _
  have tt7 := touch_setCells (w.heap.size + 2) L 0 ((W4.setCell ⟨blk .run, h, none⟩ (.int .i64 ((st.done h : Int) + 1))).setCell ⟨blk .going, h, none⟩ (.bool true))
  have rr7 := World.rangeAt_setCells_same ((W4.setCell ⟨blk .run, h, none⟩ (.int .i64 ((st.done h : Int) + 1))).setCell ⟨blk .going, h, none⟩ (.bool true)) (w.heap.size + 2) 0 L (by rw [LL.out]; exact thR6)
  have sz4 := tt4.size
  have hnew : w.heap.size ≤ w.heap.size + 2 := by omega
  refine bodyPost_ret (v := .agg L.toArray) ?res rfl ⟨rfl, _, H6.touch tt7 (fun r x e he => ?_), ?good, ?tch⟩
  case res => exact results_c (by rfl) (by rfl) (run_loadVar_mid _ _ 0 _ L dR rr7 DR1.out DR2.out (by rw [LL.out]; exact size90))
  case good =>
    refine HG.out.laid hh hu hd HK.out HREP.out (fun r h1 h2 h3 => by rw [upd_other _ _ h2, upd_other _ _ h3, upd_other _ _ h1]) eT (T' := T') (by rw [upd_other _ _ (by simp), upd_other _ _ (by simp), upd_same]) hT1 hT2 eU (upd_same _ _ _) (fun i => rfl) eB (by rw [upd_other _ _ (by simp), upd_same]) (fun i => by push_cast; rfl)
  case tch =>
    exact (((HT3.out.mono (S' := fun k => k = blk .tasks ∨ k = blk .going ∨ k = blk .run) (fun _ _ h => h.elim)).trans' tt4 (fun k hk h => .inl h)).trans' tt6 (fun k hk h => .inr h)).trans' tt7 (fun k hk h => absurd hk (by omega))
  · have hlt : blk r < w.heap.size := by
      by_cases h1 : r = .going
      · subst h1; exact hlU
      · rw [upd_other _ _ h1] at e
        by_cases h2 : r = .run
        · subst h2; exact hlB
        · rw [upd_other _ _ h2] at e
          by_cases h3 : r = .tasks
          · subst h3; exact hlT
          · rw [upd_other _ _ h3] at e; exact LT.out r x e
    omega
end Go.Proofs.Ytchhkoalibapiaa
