/-
  Lemmas: RLaid, RDone, RDone2, RDone3.
-/
import Derived.Test.YtmkkkknalldckaaTr13
import Derived.Deep.Light
import Derived.Deep.RegionLaw
import Derived.Deep.AppendLies
import Derived.Test.YtmkkkknalldckaaTr06
/-
  The reference's run: a task laid under way, a step done, what is told.
-/
namespace Go.Proofs.Ytmkkkknalldckaa
open Go.RowKit
set_option linter.unusedVariables false
set_option linter.unusedSimpArgs false
set_option linter.unnecessarySimpa false
set_option maxRecDepth 20000
open Beg

theorem size79 : (Try.prog.info? 77).map (·.size) = some 28 := by kernel_rfl
theorem row79 : ∃ d, Try.prog.underlying 77 = some d ∧ d.isRow = true := by
  have h : (Try.prog.underlying 77).map (fun d => d.isRow) = some true := by kernel_rfl
  exact Option.map_eq_some_iff.1 h

theorem rangeAt_block {w w' : World} {b o : Nat} {cs : List Value} (h : w.rangeAt b o cs) (e : w'.heap[b]? = w.heap[b]?) : w'.rangeAt b o cs := fun j v hv => by
  rw [World.cell?_of_block (a := ⟨b, o + j, none⟩) e]; exact h j v hv
theorem there_block {w w' : World} {b o n : Nat} (h : w.there b o n) (e : w'.heap[b]? = w.heap[b]?) : w'.there b o n := fun j hj => by
  rw [World.cell?_of_block (a := ⟨b, o + j, none⟩) e, World.frozen?_of_block (a := ⟨b, o + j, none⟩) e]; exact h j hj
theorem rowIs.there {w : World} {b n o m : Nat} {t : TypeId} {f : Nat → Value} (h : w.rowIs b t n f) (hm : o + m ≤ n) : w.there b o m := fun j hj =>
  ⟨by rw [h.cell (i := o + j) (by omega)]; rfl, h.frozen _⟩
theorem rowIs.setCells {b n : Nat} {t : TypeId} : ∀ (vs : List Value) (o : Nat) (w : World) (f : Nat → Value), w.rowIs b t n f → (w.setCells b o vs).rowIs b t n (fun i => if o ≤ i ∧ i < o + vs.length then vs[i - o]?.getD default else f i)
  | [], o, w, f, h => h.congr (fun i hi => by simp; intros; omega)
  | v :: r, o, w, f, h => by
    rw [World.setCells]
    refine (rowIs.setCells r (o + 1) _ _ (h.set o v)).congr (fun i hi => ?_)
    by_cases h1 : i = o
    · subst h1; simp; intro h3; omega
    · by_cases h2 : o + 1 ≤ i ∧ i < o + 1 + r.length
      · rw [if_pos h2, if_pos (by simp; omega)]
        have : i - o = (i - (o + 1)) + 1 := by omega
        rw [this]; simp
      · rw [if_neg h2]; simp only [h1, if_false]; rw [if_neg (by simp only [List.length_cons]; omega)]

section
variable {Q : Program} {fn : Func} {tmps : Array Value} {W : World} {v u : Value} {a a' : Addr} {t t' t'' : Nat} {ty ty' : TypeId}
theorem results_c (hf : fn.results = #[.cell t ty]) (ht : tmps.getD t undef = .pointer (some a)) (hl : (loadVar ty a).run Q W = .ok v W) : (results fn tmps).run Q W = .ok v W := by
  have ha : (asAddr (.pointer (some a))).run Q W = .ok a W := rfl
  unfold results
  rw [hf]
  simp only [Array.mapM_eq_mapM_toList, List.mapM_cons, List.mapM_nil, ht, Sem.run_bind, ha, hl, Result.andThen_ok, Sem.run_pure, bind_assoc, pure_bind, map_eq_pure_bind]
  rfl
theorem results_ct (hf : fn.results = #[.cell t ty, .tmp t']) (ht : tmps.getD t undef = .pointer (some a)) (hl : (loadVar ty a).run Q W = .ok v W) : (results fn tmps).run Q W = .ok (.tuple #[v, tmps.getD t' undef]) W := by
  have ha : (asAddr (.pointer (some a))).run Q W = .ok a W := rfl
  unfold results
  rw [hf]
  simp only [Array.mapM_eq_mapM_toList, List.mapM_cons, List.mapM_nil, ht, Sem.run_bind, ha, hl, Result.andThen_ok, Sem.run_pure, bind_assoc, pure_bind, map_eq_pure_bind]
  rfl
theorem results_cct (hf : fn.results = #[.cell t ty, .cell t' ty', .tmp t'']) (ht : tmps.getD t undef = .pointer (some a)) (hl : (loadVar ty a).run Q W = .ok v W) (ht' : tmps.getD t' undef = .pointer (some a')) (hl' : (loadVar ty' a').run Q W = .ok u W) : (results fn tmps).run Q W = .ok (.tuple #[v, u, tmps.getD t'' undef]) W := by
  have ha : (asAddr (.pointer (some a))).run Q W = .ok a W := rfl
  have ha' : (asAddr (.pointer (some a'))).run Q W = .ok a' W := rfl
  unfold results
  rw [hf]
  simp only [Array.mapM_eq_mapM_toList, List.mapM_cons, List.mapM_nil, ht, ht', Sem.run_bind, ha, hl, ha', hl', Result.andThen_ok, Sem.run_pure, bind_assoc, pure_bind, map_eq_pure_bind]
  rfl
end
theorem rangeAt_setOther {w : World} {b o : Nat} {cs : List Value} (h : w.rangeAt b o cs) {a : Addr} (ha : b ≠ a.block) (v : Value) : (w.setCell a v).rangeAt b o cs := rangeAt_block h (Below.heap_setCell _ _ _ _ ha)
theorem there_setOther {w : World} {b o n : Nat} (h : w.there b o n) {a : Addr} (ha : b ≠ a.block) (v : Value) : (w.setCell a v).there b o n := there_block h (Below.heap_setCell _ _ _ _ ha)

variable {K : Kd} {rep : List Value → K.σ → Prop} {P : Par} {blk : Rl → Nat} {c : Rl → Option Row} {st : St K} {un : Nat → Bool} {capw : Nat} {sv : Value} {w : World} {base B : Nat} {aoh aos : Option Addr} {caph caps : Nat} {sh : Shp} {la : Int}

/-- A task laid under way: the state is as it was. -/
theorem RGood.laid (G : RGood K rep P blk c st un capw sv) {c' : Rl → Option Row} {h : Nat} {cs : List Value} (hh : h < P.nh) (hu : un h = false) (hd : st.done h < P.jn h) (hk : IsTk cs) (hrep : rep cs (st.cur h))
    (hc : ∀ r, r ≠ .tasks → r ≠ .going → r ≠ .run → c' r = c r) {T T' : Nat → Value} (eT : c .tasks = some ⟨77, P.nh * 28, T⟩) (eT' : c' .tasks = some ⟨77, P.nh * 28, T'⟩)
    (hT1 : ∀ i, ¬ (h * 28 ≤ i ∧ i < h * 28 + 28) → T' i = T i) (hT2 : ∀ i u, cs[i]? = some u → T' (h * 28 + i) = u)
    {U U' : Nat → Value} (eU : c .going = some ⟨4, P.nh, U⟩) (eU' : c' .going = some ⟨4, P.nh, U'⟩) (hU' : ∀ i, U' i = if i = h then .bool true else U i)
    {Bf Bf' : Nat → Value} (eB : c .run = some ⟨3, P.nh, Bf⟩) (eB' : c' .run = some ⟨3, P.nh, Bf'⟩) (hB' : ∀ i, Bf' i = if i = h then .int .i64 ((st.done h + 1 : Nat) : Int) else Bf i) :
    RGood K rep P blk c' st (upd un h true) capw sv := by
  refine ⟨?_, G.word, ?_, ?_, ?_, ?_, ?_, ?_, G.doneLe, ?_, ?_, G.jobs, G.hands, G.jwf, G.lastOk⟩
  · rw [hc _ (by simp) (by simp) (by simp)]; exact G.words
  · obtain ⟨T0, eT0, hT0⟩ := G.tasks
    obtain rfl : T = T0 := by rw [eT] at eT0; cases eT0; rfl
    refine ⟨T', eT', fun i hi hui => ?_⟩
    by_cases hih : i = h
    · subst hih; exact ⟨cs, hk, hT2, hrep⟩
    · rw [upd_other _ _ hih] at hui
      obtain ⟨cs', h1, h2, h3⟩ := hT0 i hi hui
      refine ⟨cs', h1, fun j u hu' => ?_, h3⟩
      have hj : j < 28 := by have := (List.getElem?_eq_some_iff.1 hu').1; have := h1.1; omega
      rw [hT1 _ (by omega)]; exact h2 j u hu'
  · obtain ⟨U0, eU0, hU0⟩ := G.under
    obtain rfl : U = U0 := by rw [eU] at eU0; cases eU0; rfl
    refine ⟨U', eU', fun i hi => ?_⟩
    rw [hU' i]
    by_cases hih : i = h
    · subst hih; rw [if_pos rfl, upd_same]
    · rw [if_neg hih, upd_other _ _ hih]; exact hU0 i hi
  · obtain ⟨B0, eB0, hB0⟩ := G.begun
    obtain rfl : Bf = B0 := by rw [eB] at eB0; cases eB0; rfl
    refine ⟨Bf', eB', fun i hi => ?_⟩
    rw [hB' i]
    by_cases hih : i = h
    · subst hih; simp
    · rw [if_neg hih, upd_other _ _ hih]; exact hB0 i hi
  · rw [hc _ (by simp) (by simp) (by simp)]; exact G.kept
  · obtain ⟨A, eA, hA⟩ := G.answers
    exact ⟨A, by rw [hc _ (by simp) (by simp) (by simp)]; exact eA, fun i hi => by have := hA i hi; unfold Grows at this ⊢; rw [hc _ (by simp) (by simp) (by simp)]; exact this⟩
  · have := G.steps; unfold Grows at this ⊢; rw [hc _ (by simp) (by simp) (by simp)]; exact this
  · intro i hi hui
    by_cases hih : i = h
    · subst hih; exact hd
    · rw [upd_other _ _ hih] at hui; exact G.unLt i hi hui
  · intro i hi hui
    by_cases hih : i = h
    · subst hih; rw [upd_same] at hui; cases hui
    · rw [upd_other _ _ hih] at hui; exact G.fresh i hi hui

set_option maxHeartbeats 4000000 in
theorem laid_any (G : RGood K rep P blk c st un capw sv) (H : Has w base blk c) {h : Nat} {cs : List Value} (hh : h < P.nh) (hu : un h = false) (hd : st.done h < P.jn h) (hk : IsTk cs) (hrep : rep cs (st.cur h)) :
    Calls Try.prog 25 #[rv sh P blk capw (.slice aoh P.nh caph) sv la, .int .i64 h, .agg cs.toArray] w fun e w' => e = .returned (rv sh P blk capw (.slice aoh P.nh caph) sv la) ∧
      ∃ c', Has w' base blk c' ∧ RGood K rep P blk c' st (upd un h true) capw sv ∧ Touch w w' (fun k => k = blk .tasks ∨ k = blk .going ∨ k = blk .run) := by
  obtain ⟨s0, s1, s2, s3, s4, s5⟩ := sh
  obtain ⟨sa, sc, rfl⟩ := G.steps.isSlice'
  have hnh := G.hands
  obtain ⟨T, eT, hT⟩ := G.tasks
  obtain ⟨U, eU, hU⟩ := G.under
  obtain ⟨Bf, eB, hBf⟩ := G.begun
  have hkl := hk.1
  obtain ⟨L, hL⟩ : ∃ L : List Value, L = [.int .i64 s0, .int .i64 s1, .int .i64 s2, .int .i64 s3, .int .i64 s4, .int .i64 s5, .slice (some ⟨blk .words, 0, none⟩) P.n capw, .slice aoh P.nh caph, .slice (some ⟨blk .tasks, 0, none⟩) P.nh P.nh, .slice (some ⟨blk .going, 0, none⟩) P.nh P.nh, .slice (some ⟨blk .run, 0, none⟩) P.nh P.nh, .slice (some ⟨blk .mem, 0, none⟩) P.nh P.nh, .slice sa st.k sc, .slice (some ⟨blk .answers, 0, none⟩) P.nh P.nh, .int .i64 la] := ⟨_, rfl⟩
  have hval : rv ⟨s0, s1, s2, s3, s4, s5⟩ P blk capw (.slice aoh P.nh caph) (.slice sa st.k sc) la = .agg L.toArray := by rw [hL]; rfl
  rw [hval]
  have hLl : L.length = 15 := by rw [hL]; rfl
  have hL1 : ∀ v ∈ L, v.oneCell' = true := by rw [hL]; simp [Value.oneCell']
  have LT := hide (fun r x e => H.lt (r := r) (x := x) e)
  have hlT := H.lt eT
  have hlU := H.lt eU
  have hlB := H.lt eB
  have nTU : blk .tasks ≠ blk .going := H.ne eT eU (by simp)
  have nTB : blk .tasks ≠ blk .run := H.ne eT eB (by simp)
  have nUB : blk .going ≠ blk .run := H.ne eU eB (by simp)
  obtain ⟨W3, hW3⟩ : ∃ W3, ((w.alloc (.cells L.toArray 71)).alloc (.cells cs.toArray 77)).alloc (.cells #[.int .i64 0, .int .i64 0, .int .i64 0, .int .i64 0, .int .i64 0, .int .i64 0, .slice none 0 0, .slice none 0 0, .slice none 0 0, .slice none 0 0, .slice none 0 0, .slice none 0 0, .slice none 0 0, .slice none 0 0, .int .i64 0] 71) = W3 := ⟨_, rfl⟩
  have T3 : Touch w W3 (fun _ => False) := by rw [← hW3]; exact (((Touch.refl w _).alloc _).alloc _).alloc _
  have hsz : W3.heap.size = w.heap.size + 3 := by rw [← hW3]; simp
  have rL : W3.rangeAt w.heap.size 0 L := by rw [← hW3]; exact World.rangeAt_alloc (World.rangeAt_alloc (cell_range (b := 0)) _) _
  have rK : W3.rangeAt (w.heap.size + 1) 0 cs := by
    rw [← hW3]
    have := World.rangeAt_alloc (cell_range (b := 0) (w := w.alloc (.cells L.toArray 71)) (t := 77) (cs := cs)) (.cells #[.int .i64 0, .int .i64 0, .int .i64 0, .int .i64 0, .int .i64 0, .int .i64 0, .slice none 0 0, .slice none 0 0, .slice none 0 0, .slice none 0 0, .slice none 0 0, .slice none 0 0, .slice none 0 0, .slice none 0 0, .int .i64 0] 71)
    simpa using this
  have thR : W3.there (w.heap.size + 2) 0 15 := by
    rw [← hW3]
    have := there_alloc_new (w := (w.alloc (.cells L.toArray 71)).alloc (.cells cs.toArray 77)) (t := 71) (cs := [.int .i64 0, .int .i64 0, .int .i64 0, .int .i64 0, .int .i64 0, .int .i64 0, .slice none 0 0, .slice none 0 0, .slice none 0 0, .slice none 0 0, .slice none 0 0, .slice none 0 0, .slice none 0 0, .slice none 0 0, .int .i64 0])
    simpa using this
  have H3 := H.touch T3 (fun _ _ _ => id)
  have HT3 := hide T3
  have HH3 := hide H3
  have HrL := hide rL
  have HrK := hide rK
  have HthR := hide thR
  have HW3 := hide hW3
  have HG := hide G
  have HHL := hide hL
  have HL1 := hide hL1
  have HK := hide hk
  have HREP := hide hrep
  have HBf := hide hBf
  have l8 : L[8]? = some (.slice (some ⟨blk .tasks, 0, none⟩) P.nh P.nh) := by rw [hL]; rfl
  have l9 : L[9]? = some (.slice (some ⟨blk .going, 0, none⟩) P.nh P.nh) := by rw [hL]; rfl
  have l10 : L[10]? = some (.slice (some ⟨blk .run, 0, none⟩) P.nh P.nh) := by rw [hL]; rfl
  have c8 := rL 8 _ l8
  have c9 := rL 9 _ l9
  have c10 := rL 10 _ l10
  simp only [Nat.zero_add] at c8 c9 c10
  obtain ⟨dT, hdT1, hdT2⟩ := row79
  obtain ⟨dR, hdR1, hdR2⟩ := row90
  have DT1 := hide hdT1
  have DT2 := hide hdT2
  have DR1 := hide hdR1
  have DR2 := hide hdR2
  have KL := hide hkl
  have LL := hide hLl
  have hhn : (h : Int) < (P.nh : Int) := by omega
  have hh0 : (0 : Int) ≤ (h : Int) := by omega
  have hd256 : (st.done h : Int) < 256 := by have := G.jobs h hh; omega
  have hd00 : (0 : Int) ≤ (st.done h : Int) := by omega
  have nNB : w.heap.size ≠ blk .run := by omega
  have nNU : w.heap.size ≠ blk .going := by omega
  have nNB2 : w.heap.size + 2 ≠ blk .run := by omega
  have nNU2 : w.heap.size + 2 ≠ blk .going := by omega
  have KEEP : Hid (∀ W4, W3.setCells (blk .tasks) (h * 28) cs.toArray.toList = W4 → (W4.cell? ⟨w.heap.size, 9, none⟩ = some (.slice (some ⟨blk .going, 0, none⟩) P.nh P.nh) ∧ W4.cell? ⟨w.heap.size, 10, none⟩ = some (.slice (some ⟨blk .run, 0, none⟩) P.nh P.nh) ∧ W4.cell? ⟨blk .run, h, none⟩ = some (.int .i64 (st.done h)) ∧ W4.frozen? ⟨blk .run, h, none⟩ = false ∧ W4.cell? ⟨blk .going, h, none⟩ = some (.bool false) ∧ W4.frozen? ⟨blk .going, h, none⟩ = false ∧ W4.rangeAt w.heap.size 0 L ∧ W4.there (w.heap.size + 2) 0 15 ∧
      ∃ T', Has W4 base blk (upd c .tasks (some ⟨77, P.nh * 28, T'⟩)) ∧ (∀ i, ¬ (h * 28 ≤ i ∧ i < h * 28 + 28) → T' i = T i) ∧ (∀ i u, cs[i]? = some u → T' (h * 28 + i) = u) ∧ Touch W3 W4 (fun k => k = blk .tasks))) := by
    intro W4 hW4
    have tt : Touch W3 W4 (fun k => k = blk .tasks) := by rw [← hW4]; exact touch_setCells _ _ _ _
    have q : ∀ p : Addr, p.block < W3.heap.size → p.block ≠ blk .tasks → W4.cell? p = W3.cell? p ∧ W4.frozen? p = W3.frozen? p := fun p h1 h2 => ⟨World.cell?_of_block (tt.block p.block h1 h2), World.frozen?_of_block (tt.block p.block h1 h2)⟩
    have nN : w.heap.size ≠ blk .tasks := by omega
    have nN2 : w.heap.size + 2 ≠ blk .tasks := by omega
    have qB := q ⟨blk .run, h, none⟩ (by show blk .run < _; omega) nTB.symm
    have qU := q ⟨blk .going, h, none⟩ (by show blk .going < _; omega) nTU.symm
    have cb := H3.cell eB (i := h) hh
    have cu := H3.cell eU (i := h) hh
    have hb0 := hBf h hh
    have hu0 := hU h hh
    simp only [hb0, hu, Bool.false_eq_true, if_false, Nat.add_zero] at cb
    simp only [hu0, hu] at cu
    refine ⟨?_, ?_, ?_, ?_, ?_, ?_, rangeAt_block rL (tt.block _ (by omega) nN), there_block thR (tt.block _ (by omega) nN2), ?_⟩
    · rw [(q ⟨w.heap.size, 9, none⟩ (by show w.heap.size < _; omega) nN).1]; exact c9
    · rw [(q ⟨w.heap.size, 10, none⟩ (by show w.heap.size < _; omega) nN).1]; exact c10
    · rw [qB.1]; exact cb
    · rw [qB.2]; exact H3.frozen eB h
    · rw [qU.1]; exact cu
    · rw [qU.2]; exact H3.frozen eU h
    · have rr := rowIs.setCells cs (h * 28) W3 T (H3.row _ _ eT)
      have hW4' : W3.setCells (blk .tasks) (h * 28) cs = W4 := by simpa using hW4
      rw [hW4'] at rr
      refine ⟨_, H3.write .tasks ⟨77, P.nh * 28, fun i => if h * 28 ≤ i ∧ i < h * 28 + cs.length then cs[i - h * 28]?.getD default else T i⟩ eT tt rr, fun i hi => ?_, fun i u hui => ?_, tt⟩
      · rw [if_neg (by rw [hkl]; exact hi)]
      · have hi := (List.getElem?_eq_some_iff.1 hui).1
        rw [if_pos (by omega), show h * 28 + i - h * 28 = i by omega, hui]; rfl
  have HthT := hide (rowIs.there (o := h * 28) (m := 28) (H3.row _ _ eT) (by show h * 28 + 28 ≤ P.nh * 28; omega))
  clear G H H3 T3 rL rK thR hL hL1 hk hrep hBf hT hU hval hdT1 hdT2 hdR1 hdR2 hkl hLl
  go_enter Try.func25, Try.ntmps25
  go_wp2_with (first
    | (refine wpList_load_mid (by rfl) 77 (.tmp 5) (by rfl) (w.heap.size + 1) 0 (by rfl) cs dT (by exact HrK.out) (by exact DT1.out) (by exact DT2.out) (by rw [KL.out]; exact size79) ?_)
    | (refine wpList_store_mid (by rfl) 77 (.tmp 11) (.tmp 10) (by rfl) (blk .tasks) (h * 28) cs.toArray (by rfl) (by rfl) (by simpa [KL.out] using HthT.out) (by simpa [KL.out] using size79) (by exact all_oneCell_toArray HK.out.2) ?_; obtain ⟨W4, hW4⟩ : ∃ W4, W3.setCells (blk .tasks) (h * 28) cs.toArray.toList = W4 := ⟨_, rfl⟩; rw [hW4]; have KP := hide (KEEP.out W4 hW4); clear hW4; have k1 := KP.out.1; have k2 := KP.out.2.1; have k3 := KP.out.2.2.1; have k4 := KP.out.2.2.2.1; have k5 := KP.out.2.2.2.2.1; have k6 := KP.out.2.2.2.2.2.1)
    | (refine wpList_load_mid (by rfl) 71 (.tmp 3) (by rfl) w.heap.size 0 (by rfl) L dR (by exact rangeAt_setOther (rangeAt_setOther KP.out.2.2.2.2.2.2.1 nNB _) nNU _) (by exact DR1.out) (by exact DR2.out) (by rw [LL.out]; exact size90) ?_)
    | (refine wpList_store_mid (by rfl) 71 (.tmp 6) (.tmp 23) (by rfl) (w.heap.size + 2) 0 L.toArray (by rfl) (by rfl) (by simpa [LL.out] using (there_setOther (there_setOther KP.out.2.2.2.2.2.2.2.1 nNB2 _) nNU2 _)) (by simpa [LL.out] using size90) (by exact all_oneCell_toArray HL1.out) ?_))
  obtain ⟨_, _, _, _, _, _, rL4, thR4, T', H4, hT1, hT2, tt4⟩ := KP.out
  have H5 := H4.set .run (x0 := ⟨3, P.nh, Bf⟩) (by rw [upd_other _ _ (by simp)]; exact eB) h (.int .i64 ((st.done h : Int) + 1))
  have H6 := H5.set .going (x0 := ⟨4, P.nh, U⟩) (by rw [upd_other _ _ (by simp), upd_other _ _ (by simp)]; exact eU) h (.bool true)
  have thR6 := there_setOther (a := ⟨blk .going, h, none⟩) (there_setOther (a := ⟨blk .run, h, none⟩) thR4 nNB2 (.int .i64 ((st.done h : Int) + 1))) nNU2 (.bool true)
  have tt6 : Touch W4 ((W4.setCell ⟨blk .run, h, none⟩ (.int .i64 ((st.done h : Int) + 1))).setCell ⟨blk .going, h, none⟩ (.bool true)) (fun k => k = blk .going ∨ k = blk .run) := ((Touch.refl W4 _).setCell ⟨blk .run, h, none⟩ (.inl (.inr rfl)) _).setCell ⟨blk .going, h, none⟩ (.inl (.inl rfl)) _
  have tt7 := touch_setCells (w.heap.size + 2) L 0 ((W4.setCell ⟨blk .run, h, none⟩ (.int .i64 ((st.done h : Int) + 1))).setCell ⟨blk .going, h, none⟩ (.bool true))
  have rr7 := World.rangeAt_setCells_same ((W4.setCell ⟨blk .run, h, none⟩ (.int .i64 ((st.done h : Int) + 1))).setCell ⟨blk .going, h, none⟩ (.bool true)) (w.heap.size + 2) 0 L (by rw [LL.out]; exact thR6)
  have sz4 := tt4.size
  have hnew : w.heap.size ≤ w.heap.size + 2 := by omega
  refine bodyPost_ret (v := .agg L.toArray) ?res rfl ⟨rfl, _, H6.touch tt7 (fun r x e he => ?_), ?good, ?tch⟩
  case res => exact results_c (by rfl) (by rfl) (run_loadVar_mid _ _ 0 _ L dR rr7 DR1.out DR2.out (by rw [LL.out]; exact size90))
  case good =>
    refine HG.out.laid hh hu hd HK.out HREP.out (fun r h1 h2 h3 => by rw [upd_other _ _ h2, upd_other _ _ h3, upd_other _ _ h1]) eT (T' := T') (by rw [upd_other _ _ (by simp), upd_other _ _ (by simp), upd_same]) hT1 hT2 eU (upd_same _ _ _) (fun i => rfl) eB (by rw [upd_other _ _ (by simp), upd_same]) (fun i => by push_cast; rfl)
  case tch =>
    exact (((HT3.out.mono (S' := fun k => k = blk .tasks ∨ k = blk .going ∨ k = blk .run) (fun _ _ h => h.elim)).trans' tt4 (fun k hk h => .inl h)).trans' tt6 (fun k hk h => .inr h)).trans' tt7 (fun k hk h => absurd hk (by omega))
  · have hlt : blk r < w.heap.size := by
      by_cases h1 : r = .going
      · subst h1; exact hlU
      · rw [upd_other _ _ h1] at e
        by_cases h2 : r = .run
        · subst h2; exact hlB
        · rw [upd_other _ _ h2] at e
          by_cases h3 : r = .tasks
          · subst h3; exact hlT
          · rw [upd_other _ _ h3] at e; exact LT.out r x e
    omega
end Go.Proofs.Ytmkkkknalldckaa

/-
  The reference's run behind a step.
-/
namespace Go.Proofs.Ytmkkkknalldckaa
open Go.RowKit
set_option linter.unusedVariables false
set_option linter.unusedSimpArgs false
set_option linter.unnecessarySimpa false
set_option maxRecDepth 20000
open Beg

variable {K : Kd} {rep : List Value → K.σ → Prop} {P : Par} {blk blk' : Rl → Nat} {c c' : Rl → Option Row} {st : St K} {un : Nat → Bool} {capw : Nat} {sv sv' : Value} {w : World} {base B : Nat} {aoh aos : Option Addr} {caph caps : Nat} {sh : Shp} {la : Int} {h : Nat} {x : Stp} {f' : Nat → Int} {cs : List Value}

/-- With the words of a step, all else as it was. -/
def St.with (st : St K) (f' : Nat → Int) : St K := { st with f := f' }

/-- A step behind which the task goes on. -/
theorem RGood.goesOn (G : RGood K rep P blk c (st.with f') un capw sv) (hh : h < P.nh) (hu : un h = true) (hx : stepOf P.n st.f (K.req (st.cur h)) = x) (hf : wordsOf P.n st.f (K.req (st.cur h)) = f')
    (hend : ¬ K.ends (st.cur h) x = true) (hk : IsTk cs) (hrep : rep cs (K.next (st.cur h) x))
    (hb : ∀ r, r ≠ .steps → blk' r = blk r) (hc : ∀ r, r ≠ .tasks → r ≠ .steps → c' r = c r) {T T' : Nat → Value} (eT : c .tasks = some ⟨77, P.nh * 28, T⟩) (eT' : c' .tasks = some ⟨77, P.nh * 28, T'⟩)
    (hT1 : ∀ i, ¬ (h * 28 ≤ i ∧ i < h * 28 + 28) → T' i = T i) (hT2 : ∀ i u, cs[i]? = some u → T' (h * 28 + i) = u)
    (GS : Grows blk' c' .steps 38 6 (st.k + 1) (stepCells st.s st.k ++ x.cells) sv') : RGood K rep P blk' c' (stepSt P st h) un capw sv' := by
  have hdone : (stepSt P st h).done = st.done := by simp only [stepSt, hx]; rw [if_neg hend]
  have hans : (stepSt P st h).ans = st.ans := by simp only [stepSt, hx]; rw [if_neg hend]
  have hcur : (stepSt P st h).cur = upd st.cur h (K.next (st.cur h) x) := by simp only [stepSt, hx]; rw [if_neg hend]
  have hf2 : (stepSt P st h).f = f' := by simp only [stepSt, hf]
  refine ⟨?_, ?_, ?_, ?_, ?_, ?_, ?_, ?_, ?_, ?_, ?_, G.jobs, G.hands, G.jwf, ?_⟩
  · rw [hc _ (by simp) (by simp), hf2]; exact G.words
  · rw [hf2]; exact G.word
  · obtain ⟨T0, eT0, hT0⟩ := G.tasks
    obtain rfl : T = T0 := by rw [eT] at eT0; cases eT0; rfl
    refine ⟨T', eT', fun i hi hui => ?_⟩
    rw [hcur]
    by_cases hih : i = h
    · subst hih; rw [upd_same]; exact ⟨cs, hk, hT2, hrep⟩
    · rw [upd_other _ _ hih]
      obtain ⟨cs', h1, h2, h3⟩ := hT0 i hi hui
      refine ⟨cs', h1, fun j u hu' => ?_, h3⟩
      have hj : j < 28 := by have := (List.getElem?_eq_some_iff.1 hu').1; have := h1.1; omega
      rw [hT1 _ (by omega)]; exact h2 j u hu'
  · rw [hc _ (by simp) (by simp)]; exact G.under
  · rw [hc _ (by simp) (by simp), hdone]; exact G.begun
  · rw [hc _ (by simp) (by simp)]; exact G.kept
  · obtain ⟨A, eA, hA⟩ := G.answers
    rw [hdone, hans]
    exact ⟨A, by rw [hc _ (by simp) (by simp)]; exact eA, fun i hi => by have := hA i hi; unfold Grows at this ⊢; rw [hc _ (by simp) (by simp), hb _ (by simp)]; exact this⟩
  · have : stepCells (stepSt P st h).s (stepSt P st h).k = stepCells st.s st.k ++ x.cells := by
      simp only [stepSt, hx, stepCells, upd_same]
      rw [stepCells_congr (b := st.s) (fun j hj => upd_other _ _ (by omega))]
    rw [this]; exact GS
  · rw [hdone]; exact G.doneLe
  · rw [hdone]; exact G.unLt
  · rw [hdone, hcur]
    intro i hi hui hl
    have hih : i ≠ h := by rintro rfl; rw [hu] at hui; cases hui
    rw [upd_other _ _ hih]; exact G.fresh i hi hui hl
  · simp only [stepSt]; omega

/-- A step behind which the task has ended. -/
theorem RGood.ended (G : RGood K rep P blk c (st.with f') un capw sv) (hh : h < P.nh) (hu : un h = true) (hx : stepOf P.n st.f (K.req (st.cur h)) = x) (hf : wordsOf P.n st.f (K.req (st.cur h)) = f')
    (hend : K.ends (st.cur h) x = true)
    (hb : ∀ r, r ≠ .steps → r ≠ .arow h → blk' r = blk r) (hc : ∀ r, r ≠ .tasks → r ≠ .steps → r ≠ .arow h → r ≠ .going → r ≠ .mem → r ≠ .answers → c' r = c r) {T T' : Nat → Value} (eT : c .tasks = some ⟨77, P.nh * 28, T⟩) (eT' : c' .tasks = some ⟨77, P.nh * 28, T'⟩)
    (hT1 : ∀ i, ¬ (h * 28 ≤ i ∧ i < h * 28 + 28) → T' i = T i)
    {U U' : Nat → Value} (eU : c .going = some ⟨4, P.nh, U⟩) (eU' : c' .going = some ⟨4, P.nh, U'⟩) (hU' : ∀ i, U' i = if i = h then .bool false else U i)
    {Kf' : Nat → Value} (eK' : c' .mem = some ⟨75, P.nh * 4, Kf'⟩) (hK' : ∀ i, i < P.nh * 4 → Kf' i = .int .u64 0)
    {A A' : Nat → Value} (eA : c .answers = some ⟨44, P.nh, A⟩) (eA' : c' .answers = some ⟨44, P.nh, A'⟩) (hA' : ∀ i, i ≠ h → A' i = A i)
    (hAh : Grows blk' c' (.arow h) 46 2 (st.done h + 1) (ansCells (st.ans h) (st.done h) ++ (K.tell (K.next (st.cur h) x)).cells) (A' h))
    (GS : Grows blk' c' .steps 38 6 (st.k + 1) (stepCells st.s st.k ++ x.cells) sv') : RGood K rep P blk' c' (stepSt P st h) (upd un h false) capw sv' := by
  have hd := G.unLt h hh hu
  replace hd : st.done h < P.jn h := hd
  have hdone : (stepSt P st h).done = upd st.done h (st.done h + 1) := by simp only [stepSt, hx]; rw [if_pos hend]
  have hans : (stepSt P st h).ans = upd st.ans h (upd (st.ans h) (st.done h) (K.tell (K.next (st.cur h) x))) := by simp only [stepSt, hx]; rw [if_pos hend]
  have hcur : (stepSt P st h).cur = upd st.cur h (K.init h (P.jb h (st.done h + 1))) := by simp only [stepSt, hx]; rw [if_pos hend]
  have hf2 : (stepSt P st h).f = f' := by simp only [stepSt, hf]
  refine ⟨?_, ?_, ?_, ?_, ?_, ⟨Kf', eK', hK'⟩, ?_, ?_, ?_, ?_, ?_, G.jobs, G.hands, G.jwf, ?_⟩
  · rw [hc _ (by simp) (by simp) (by simp) (by simp) (by simp) (by simp), hf2]; exact G.words
  · rw [hf2]; exact G.word
  · obtain ⟨T0, eT0, hT0⟩ := G.tasks
    obtain rfl : T = T0 := by rw [eT] at eT0; cases eT0; rfl
    refine ⟨T', eT', fun i hi hui => ?_⟩
    have hih : i ≠ h := by rintro rfl; rw [upd_same] at hui; cases hui
    rw [upd_other _ _ hih] at hui
    rw [hcur, upd_other _ _ hih]
    obtain ⟨cs', h1, h2, h3⟩ := hT0 i hi hui
    refine ⟨cs', h1, fun j u hu' => ?_, h3⟩
    have hj : j < 28 := by have := (List.getElem?_eq_some_iff.1 hu').1; have := h1.1; omega
    rw [hT1 _ (by omega)]; exact h2 j u hu'
  · obtain ⟨U0, eU0, hU0⟩ := G.under
    obtain rfl : U = U0 := by rw [eU] at eU0; cases eU0; rfl
    refine ⟨U', eU', fun i hi => ?_⟩
    rw [hU' i]
    by_cases hih : i = h
    · subst hih; rw [if_pos rfl, upd_same]
    · rw [if_neg hih, upd_other _ _ hih]; exact hU0 i hi
  · obtain ⟨B0, eB0, hB0⟩ := G.begun
    refine ⟨B0, by rw [hc _ (by simp) (by simp) (by simp) (by simp) (by simp) (by simp)]; exact eB0, fun i hi => ?_⟩
    rw [hB0 i hi, hdone]
    by_cases hih : i = h
    · subst hih; simp [hu, St.with]
    · rw [upd_other _ _ hih, upd_other _ _ hih]; rfl
  · obtain ⟨A0, eA0, hA0⟩ := G.answers
    obtain rfl : A = A0 := by rw [eA] at eA0; cases eA0; rfl
    refine ⟨A', eA', fun i hi => ?_⟩
    rw [hdone, hans]
    by_cases hih : i = h
    · subst hih
      rw [upd_same, upd_same]
      have : ansCells (upd (st.ans i) (st.done i) (K.tell (K.next (st.cur i) x))) (st.done i + 1) = ansCells (st.ans i) (st.done i) ++ (K.tell (K.next (st.cur i) x)).cells := by
        simp only [ansCells, upd_same]
        rw [ansCells_congr (b := st.ans i) (fun j hj => upd_other _ _ (by omega))]
      rw [this]; exact hAh
    · rw [upd_other _ _ hih, upd_other _ _ hih, hA' i hih]
      have := hA0 i hi
      unfold Grows at this ⊢
      rw [hc _ (by simp) (by simp) (by simp [hih]) (by simp) (by simp) (by simp), hb _ (by simp) (by simp [hih])]
      exact this
  · have : stepCells (stepSt P st h).s (stepSt P st h).k = stepCells st.s st.k ++ x.cells := by
      simp only [stepSt, hx, stepCells, upd_same]
      rw [stepCells_congr (b := st.s) (fun j hj => upd_other _ _ (by omega))]
    rw [this]; exact GS
  · intro i hi
    rw [hdone]
    by_cases hih : i = h
    · subst hih; rw [upd_same]; omega
    · rw [upd_other _ _ hih]; exact G.doneLe i hi
  · intro i hi hui
    have hih : i ≠ h := by rintro rfl; rw [upd_same] at hui; cases hui
    rw [upd_other _ _ hih] at hui
    rw [hdone, upd_other _ _ hih]; exact G.unLt i hi hui
  · rw [hdone, hcur]
    intro i hi hui hl
    by_cases hih : i = h
    · subst hih; rw [upd_same, upd_same]
    · rw [upd_other _ _ hih] at hui hl ⊢
      rw [upd_other _ _ hih]
      exact G.fresh i hi hui hl
  · simp only [stepSt]; omega

/-- Without what was lent to the roles of single tasks. -/
def bare (c : Rl → Option Row) : Rl → Option Row := fun r => match r with | .task _ _ => none | r => c r
theorem bare_of {c : Rl → Option Row} {r : Rl} (h : ∀ a b, r ≠ .task a b) : bare c r = c r := by
  cases r <;> first | rfl | exact absurd rfl (h _ _)
theorem Has.bare {w : World} {base : Nat} {blk : Rl → Nat} {c : Rl → Option Row} (h : Has w base blk c) : Has w base blk (bare c) := h.weaken (fun r x e => by
  cases r <;> first | exact e | cases e)
theorem RGood.bare (G : RGood K rep P blk c st un capw sv) : RGood K rep P blk (bare c) st un capw sv :=
  ⟨G.words, G.word, G.tasks, G.under, G.begun, G.kept, G.answers, G.steps, G.doneLe, G.unLt, G.fresh, G.jobs, G.hands, G.jwf, G.lastOk⟩

def lrow (l : List Value) : Nat → Value := fun i => l[i]?.getD default
theorem lrow_of {l : List Value} {i : Nat} {v : Value} (h : l[i]? = some v) : lrow l i = v := by simp [lrow, h]

theorem boxes {w : World} {base : Nat} {blk : Rl → Nat} {c : Rl → Option Row} (H : Has w base blk c) (hb : base ≤ w.heap.size) (l0 l1 l2 l3 : List Value) (t0 t1 t2 t3 : TypeId) :
    Has ((((w.alloc (.cells l0.toArray t0)).alloc (.cells l1.toArray t1)).alloc (.cells l2.toArray t2)).alloc (.cells l3.toArray t3)) base
      (upd (upd (upd (upd blk (.task 0 0) w.heap.size) (.task 0 1) (w.heap.size + 1)) (.task 0 2) (w.heap.size + 2)) (.task 0 3) (w.heap.size + 3))
      (upd (upd (upd (upd (bare c) (.task 0 0) (some ⟨t0, l0.length, lrow l0⟩)) (.task 0 1) (some ⟨t1, l1.length, lrow l1⟩)) (.task 0 2) (some ⟨t2, l2.length, lrow l2⟩)) (.task 0 3) (some ⟨t3, l3.length, lrow l3⟩)) := by
  have row : ∀ (w : World) (l : List Value) (t : TypeId), (w.alloc (.cells l.toArray t)).rowIs w.heap.size t l.length (lrow l) := fun w l t => World.rowIs_alloc' w l.toArray t l.length (by simp) (fun i hi => by simp [lrow, hi])
  have one : ∀ {w : World} {blk : Rl → Nat} {c : Rl → Option Row} (H : Has w base blk c) (hb : base ≤ w.heap.size) (r : Rl) (l : List Value) (t : TypeId) {n : Nat}, w.heap.size = n → Has (w.alloc (.cells l.toArray t)) base (upd blk r n) (upd c r (some ⟨t, l.length, lrow l⟩)) := fun {w} {blk} {c} H hb r l t {n} hn => by
    subst hn
    exact H.add r w.heap.size _ hb (Nat.le_refl _) (S := fun _ => False) ((Touch.refl w _).alloc _) (fun _ _ _ _ => id) (row w l t)
  exact one (one (one (one H.bare hb _ l0 t0 rfl) (by simp; omega) _ l1 t1 (by simp)) (by simp; omega) _ l2 t2 (by simp)) (by simp; omega) _ l3 t3 (by simp)
end Go.Proofs.Ytmkkkknalldckaa

/-
  middenref03's Run.Done, where the task goes on.
-/
namespace Go.Proofs.Ytmkkkknalldckaa
open Go.RowKit
set_option linter.unusedVariables false
set_option linter.unusedSimpArgs false
set_option linter.unnecessarySimpa false
set_option maxRecDepth 20000
open Beg

variable {K : Kd} {rep : List Value → K.σ → Prop} {P : Par} {blk blk' : Rl → Nat} {c c' : Rl → Option Row} {st : St K} {un : Nat → Bool} {capw : Nat} {sv sv' : Value} {w : World} {base B : Nat} {aoh aos : Option Addr} {caph caps : Nat} {sh : Shp} {la : Int} {h : Nat} {x : Stp} {f' : Nat → Int} {cs : List Value}

/-- The run's own blocks. -/
def Own (blk : Rl → Nat) (c : Rl → Option Row) : Nat → Prop := fun k => ∃ r y, c r = some y ∧ blk r = k

def zRun : List Value := [.int .i64 0, .int .i64 0, .int .i64 0, .int .i64 0, .int .i64 0, .int .i64 0, .slice none 0 0, .slice none 0 0, .slice none 0 0, .slice none 0 0, .slice none 0 0, .slice none 0 0, .slice none 0 0, .slice none 0 0, .int .i64 0]

theorem cellOf {w : World} {base : Nat} {blk : Rl → Nat} {c : Rl → Option Row} {r : Rl} {t : TypeId} {n b i : Nat} {F : Nat → Value} {v : Value} (H : Has w base blk c) (e : c r = some ⟨t, n, F⟩) (hb : blk r = b) (hi : i < n) (hv : F i = v) : w.cell? ⟨b, i, none⟩ = some v := by
  subst hb; subst hv; exact H.cell e hi
theorem frozenOf {w : World} {base : Nat} {blk : Rl → Nat} {c : Rl → Option Row} {r : Rl} {y : Row} {b : Nat} (H : Has w base blk c) (e : c r = some y) (hb : blk r = b) (i : Nat) : w.frozen? ⟨b, i, none⟩ = false := by
  subst hb; exact H.frozen e i
theorem rangeOf {w : World} {base : Nat} {blk : Rl → Nat} {c : Rl → Option Row} {r : Rl} {t : TypeId} {n b : Nat} {F : Nat → Value} {l : List Value} (H : Has w base blk c) (e : c r = some ⟨t, n, F⟩) (hb : blk r = b) (hl : l.length = n) (hF : ∀ i v, l[i]? = some v → F i = v) : w.rangeAt b 0 l := fun j v hv => by
  have hj := (List.getElem?_eq_some_iff.1 hv).1
  rw [Nat.zero_add]
  exact cellOf H e hb (by omega) (hF j v hv)
theorem thereOf {w : World} {base : Nat} {blk : Rl → Nat} {c : Rl → Option Row} {r : Rl} {t : TypeId} {n b o m : Nat} {F : Nat → Value} (H : Has w base blk c) (e : c r = some ⟨t, n, F⟩) (hb : blk r = b) (hm : o + m ≤ n) : w.there b o m := by
  subst hb; exact rowIs.there (H.row _ _ e) hm
/-- A row of cells written into a role's block. -/
theorem Has.setCells {w : World} {base : Nat} {blk : Rl → Nat} {c : Rl → Option Row} {r : Rl} {t : TypeId} {n : Nat} {F : Nat → Value} (H : Has w base blk c) (e : c r = some ⟨t, n, F⟩) (o : Nat) (vs : List Value) :
    Has (w.setCells (blk r) o vs) base blk (upd c r (some ⟨t, n, fun i => if o ≤ i ∧ i < o + vs.length then vs[i - o]?.getD default else F i⟩)) :=
  H.write r _ e (touch_setCells _ _ _ _) (rowIs.setCells vs o w F (H.row _ _ e))
end Go.Proofs.Ytmkkkknalldckaa

/-
  middenref03's Run.Done, where the task goes on.
-/
namespace Go.Proofs.Ytmkkkknalldckaa
open Go.RowKit
set_option linter.unusedVariables false
set_option linter.unusedSimpArgs false
set_option linter.unnecessarySimpa false
set_option maxRecDepth 20000
open Beg

variable {K : Kd} {rep : List Value → K.σ → Prop} {P : Par} {blk blk' : Rl → Nat} {c c' : Rl → Option Row} {st : St K} {un : Nat → Bool} {capw : Nat} {sv sv' : Value} {w : World} {base B : Nat} {aoh aos : Option Addr} {caph caps : Nat} {sh : Shp} {la : Int} {h : Nat} {x : Stp} {f' : Nat → Int} {cs : List Value}

theorem set2_one {L : List Value} (h : ∀ v ∈ L, v.oneCell' = true) (i j : Nat) (u v : Value) (hu : u.oneCell' = true) (hv : v.oneCell' = true) : ((L.set i u).set j v).toArray.all (·.oneCell') = true :=
  all_oneCell_toArray (fun y hy => by
    rcases List.mem_or_eq_of_mem_set hy with hy | rfl
    · rcases List.mem_or_eq_of_mem_set hy with hy | rfl
      · exact h y hy
      · exact hu
    · exact hv)

theorem Has.congrBlk {w : World} {base : Nat} {blk blk' : Rl → Nat} {c : Rl → Option Row} (h : Has w base blk c) (e : ∀ r x, c r = some x → blk' r = blk r) : Has w base blk' c :=
  ⟨fun r r' x x' h1 h2 h3 => h.inj r r' x x' h1 h2 (by rw [← e r x h1, ← e r' x' h2]; exact h3), fun r x h1 => by rw [e r x h1]; exact h.row r x h1, fun r x h1 => by rw [e r x h1]; exact h.new r x h1⟩

theorem Has.reRow {w : World} {base : Nat} {blk : Rl → Nat} {c : Rl → Option Row} {r : Rl} {t : TypeId} {n : Nat} {F F' : Nat → Value} (h : Has w base blk c) (e : c r = some ⟨t, n, F⟩) (hF : ∀ i, i < n → F i = F' i) : Has w base blk (upd c r (some ⟨t, n, F'⟩)) :=
  h.write r ⟨t, n, F'⟩ e (Touch.refl w _) ((h.row r _ e).congr hF)
theorem upd_upd {ι α : Type} [DecidableEq ι] (g : ι → α) (r : ι) (x y : α) : upd (upd g r x) r y = upd g r y := by
  funext k
  by_cases h : k = r
  · subst h; simp
  · rw [upd_other _ _ h, upd_other _ _ h, upd_other _ _ h]
/-- Two cells of a role's row written: the row's list. -/
theorem two_sets_row {w : World} {base : Nat} {blk : Rl → Nat} {c : Rl → Option Row} {r : Rl} {t : TypeId} {b : Nat} {L : List Value} (H : Has w base blk c) (e : c r = some ⟨t, 15, lrow L⟩) (hb : blk r = b) (hl : L.length = 15) (i j : Nat) (u v : Value) (hij : i ≠ j) :
    Has ((w.setCell ⟨b, i, none⟩ u).setCell ⟨b, j, none⟩ v) base blk (upd c r (some ⟨t, 15, lrow ((L.set i u).set j v)⟩)) := by
  subst hb
  have h1 := (H.set r e i u).set r (upd_same _ _ _) j v
  have h2 := h1.reRow (F' := lrow ((L.set i u).set j v)) (upd_same _ _ _) (fun q hq => by
    by_cases h2 : q = j
    · subst h2; simp [lrow, List.getElem?_set, hl, hq]
    · by_cases h3 : q = i
      · subst h3; simp [lrow, List.getElem?_set, hl, hq, h2, Ne.symm h2]
      · simp [lrow, List.getElem?_set, h2, h3, Ne.symm h2, Ne.symm h3])
  rw [upd_upd, upd_upd] at h2
  exact h2

/-- Two cells of a role's row written; what the row then is. -/
theorem two_sets {w : World} {base : Nat} {blk : Rl → Nat} {c : Rl → Option Row} {r : Rl} {t : TypeId} {b : Nat} {L : List Value} (H : Has w base blk c) (e : c r = some ⟨t, 15, lrow L⟩) (hb : blk r = b) (hl : L.length = 15) (i j : Nat) (u v : Value) (hij : i ≠ j) :
    ∃ c', Has ((w.setCell ⟨b, i, none⟩ u).setCell ⟨b, j, none⟩ v) base blk c' ∧ ((w.setCell ⟨b, i, none⟩ u).setCell ⟨b, j, none⟩ v).rangeAt b 0 ((L.set i u).set j v) ∧ (∃ y, c' r = some y) ∧ ∀ r', r' ≠ r → c' r' = c r' := by
  subst hb
  have h1 := (H.set r e i u).set r (upd_same _ _ _) j v
  refine ⟨_, h1, rangeOf h1 (upd_same _ _ _) rfl (by simp [hl]) (fun q z hz => ?_), ⟨_, upd_same _ _ _⟩, fun r' hr' => by rw [upd_other _ _ hr', upd_other _ _ hr']⟩
  have hq : q < 15 := by have := (List.getElem?_eq_some_iff.1 hz).1; simpa [hl] using this
  rw [List.getElem?_set] at hz
  by_cases h2 : q = j
  · subst h2; simp [hl, hq] at hz; simp [hz]
  · rw [if_neg (fun e => h2 e.symm), List.getElem?_set] at hz
    simp only [h2, if_false]
    by_cases h3 : q = i
    · subst h3; simp [hl, hq] at hz; simp [hz]
    · rw [if_neg (fun e => h3 e.symm)] at hz
      simp only [h3, if_false]
      exact lrow_of hz

set_option maxHeartbeats 8000000 in
theorem rdone_goes (G : RGood K rep P blk c (st.with f') un capw sv) (H : Has w base blk c) (hh : h < P.nh) (hu : un h = true) (hx : stepOf P.n st.f (K.req (st.cur h)) = x) (hf : wordsOf P.n st.f (K.req (st.cur h)) = f')
    (hend : ¬ K.ends (st.cur h) x = true) (hk : IsTk cs) (hrep : rep cs (K.next (st.cur h) x)) (hk6 : st.k < 65536) :
    Calls Try.prog 27 #[rv sh P blk capw (.slice aoh P.nh caph) sv la, .int .i64 h, .agg cs.toArray, x.val, .bool false] w fun e w' => ∃ blk' c' sv', e = .returned (rv sh P blk' capw (.slice aoh P.nh caph) sv' h) ∧ Has w' base blk' c' ∧ RGood K rep P blk' c' (stepSt P st h) un capw sv' ∧ Touch w w' (Own blk c) := by
  obtain ⟨s0, s1, s2, s3, s4, s5⟩ := sh
  obtain ⟨sa, sc, hsv⟩ := G.steps.isSlice'
  replace hsv : sv = .slice sa st.k sc := hsv
  subst hsv
  have hnh := G.hands
  obtain ⟨T, eT, hT⟩ := G.tasks
  obtain ⟨U, eU, hU⟩ := G.under
  obtain ⟨A, eA, hA⟩ := G.answers
  obtain ⟨Kf, eK, hKf⟩ := G.kept
  have hkl := hk.1
  have hlT := H.lt eT
  have hbase : base ≤ w.heap.size := Nat.le_of_lt (Nat.lt_of_le_of_lt (H.new _ _ eT) hlT)
  have LT := hide (fun r y e => H.lt (r := r) (x := y) e)
  obtain ⟨L, hL⟩ : ∃ L : List Value, L = [.int .i64 s0, .int .i64 s1, .int .i64 s2, .int .i64 s3, .int .i64 s4, .int .i64 s5, .slice (some ⟨blk .words, 0, none⟩) P.n capw, .slice aoh P.nh caph, .slice (some ⟨blk .tasks, 0, none⟩) P.nh P.nh, .slice (some ⟨blk .going, 0, none⟩) P.nh P.nh, .slice (some ⟨blk .run, 0, none⟩) P.nh P.nh, .slice (some ⟨blk .mem, 0, none⟩) P.nh P.nh, .slice sa st.k sc, .slice (some ⟨blk .answers, 0, none⟩) P.nh P.nh, .int .i64 la] := ⟨_, rfl⟩
  have hval : rv ⟨s0, s1, s2, s3, s4, s5⟩ P blk capw (.slice aoh P.nh caph) (.slice sa st.k sc) la = .agg L.toArray := by rw [hL]; rfl
  rw [hval]
  have hLl : L.length = 15 := by rw [hL]; rfl
  have l9 : L[9]? = some (.slice (some ⟨blk .going, 0, none⟩) P.nh P.nh) := by rw [hL]; rfl
  have l8 : L[8]? = some (.slice (some ⟨blk .tasks, 0, none⟩) P.nh P.nh) := by rw [hL]; rfl
  have l11 : L[11]? = some (.slice (some ⟨blk .mem, 0, none⟩) P.nh P.nh) := by rw [hL]; rfl
  have l12 : L[12]? = some (.slice sa st.k sc) := by rw [hL]; rfl
  have l13 : L[13]? = some (.slice (some ⟨blk .answers, 0, none⟩) P.nh P.nh) := by rw [hL]; rfl
  have l14 : L[14]? = some (.int .i64 la) := by rw [hL]; rfl
  have hL1 : ∀ v ∈ L, v.oneCell' = true := by rw [hL]; simp [Value.oneCell']
  obtain ⟨W4, hW4⟩ : ∃ W4, (((w.alloc (.cells L.toArray 71)).alloc (.cells cs.toArray 77)).alloc (.cells #[.int .i64 x.hand, .int .i64 x.act, .int .i64 x.at_, .int .u64 x.had, .int .u64 x.put, .bool x.ok] 38)).alloc (.cells #[.int .i64 0, .int .i64 0, .int .i64 0, .int .i64 0, .int .i64 0, .int .i64 0, .slice none 0 0, .slice none 0 0, .slice none 0 0, .slice none 0 0, .slice none 0 0, .slice none 0 0, .slice none 0 0, .slice none 0 0, .int .i64 0] 71) = W4 := ⟨_, rfl⟩
  have H4 := boxes H hbase L cs x.cells zRun 71 77 38 71
  simp only [zRun, Stp.cells] at H4
  rw [hW4] at H4
  have T4 : Touch w W4 (fun _ => False) := by rw [← hW4]; exact ((((Touch.refl w _).alloc _).alloc _).alloc _).alloc _
  have hsz : W4.heap.size = w.heap.size + 4 := by rw [← hW4]; simp
  obtain ⟨blk4, hblk4⟩ : ∃ b4, upd (upd (upd (upd blk (.task 0 0) w.heap.size) (.task 0 1) (w.heap.size + 1)) (.task 0 2) (w.heap.size + 2)) (.task 0 3) (w.heap.size + 3) = b4 := ⟨_, rfl⟩
  rw [hblk4] at H4
  have bR : blk4 (.task 0 0) = w.heap.size := by rw [← hblk4]; simp [upd]
  have bT : blk4 (.task 0 1) = w.heap.size + 1 := by rw [← hblk4]; simp [upd]
  have bS : blk4 (.task 0 2) = w.heap.size + 2 := by rw [← hblk4]; simp [upd]
  have bO : blk4 (.task 0 3) = w.heap.size + 3 := by rw [← hblk4]; simp [upd]
  have bq : ∀ r, (∀ a b, r ≠ .task a b) → blk4 r = blk r := fun r hr => by rw [← hblk4]; simp [upd, hr]
  have bTs := bq .tasks (by simp)
  have bU := bq .going (by simp)
  have bM := bq .mem (by simp)
  have bA := bq .answers (by simp)
  have bSt := bq .steps (by simp)
  obtain ⟨c4, hc4⟩ : ∃ c4, upd (upd (upd (upd (bare c) (.task 0 0) (some ⟨71, L.length, lrow L⟩)) (.task 0 1) (some ⟨77, cs.length, lrow cs⟩)) (.task 0 2) (some ⟨38, 6, lrow [.int .i64 x.hand, .int .i64 x.act, .int .i64 x.at_, .int .u64 x.had, .int .u64 x.put, .bool x.ok]⟩)) (.task 0 3) (some ⟨71, 15, lrow [.int .i64 0, .int .i64 0, .int .i64 0, .int .i64 0, .int .i64 0, .int .i64 0, .slice none 0 0, .slice none 0 0, .slice none 0 0, .slice none 0 0, .slice none 0 0, .slice none 0 0, .slice none 0 0, .slice none 0 0, .int .i64 0]⟩) = c4 := ⟨_, rfl⟩
  replace H4 : Has W4 base blk4 c4 := by rw [← hc4]; exact H4
  have eR4 : c4 (.task 0 0) = some ⟨71, L.length, lrow L⟩ := by rw [← hc4]; simp [upd]
  have eT4 : c4 (.task 0 1) = some ⟨77, cs.length, lrow cs⟩ := by rw [← hc4]; simp [upd]
  have eS4 : c4 (.task 0 2) = some ⟨38, 6, lrow [.int .i64 x.hand, .int .i64 x.act, .int .i64 x.at_, .int .u64 x.had, .int .u64 x.put, .bool x.ok]⟩ := by rw [← hc4]; simp [upd]
  have eO4 : ∃ O, c4 (.task 0 3) = some ⟨71, 15, O⟩ := ⟨_, by rw [← hc4, upd_same]⟩
  have cq : ∀ r, (∀ a b, r ≠ .task a b) → c4 r = c r := fun r hr => by
    rw [← hc4, upd_other _ _ (hr 0 3), upd_other _ _ (hr 0 2), upd_other _ _ (hr 0 1), upd_other _ _ (hr 0 0), bare_of hr]
  obtain ⟨O, eO4⟩ := eO4
  rw [hLl] at eR4
  rw [hkl] at eT4
  have eTs4 : c4 .tasks = some ⟨77, P.nh * 28, T⟩ := by rw [cq _ (by simp)]; exact eT
  have rK : W4.rangeAt (w.heap.size + 1) 0 cs := rangeOf H4 eT4 bT hkl (fun i v hv => lrow_of hv)
  have thT : W4.there (blk .tasks) (h * 28) 28 := thereOf H4 eTs4 bTs (by omega)
  have GS4 : Grows blk4 c4 .steps 38 6 st.k (stepCells st.s st.k) (.slice sa st.k sc) := by
    have := G.steps
    unfold Grows at this ⊢
    rw [bSt, cq .steps (by simp)]
    exact this
  have KEEP : Hid (∀ W5, W4.setCells (blk .tasks) (h * 28) cs.toArray.toList = W5 → Touch W4 W5 (fun k => k = blk .tasks) ∧ ∃ T', Has W5 base blk4 (upd c4 .tasks (some ⟨77, P.nh * 28, T'⟩)) ∧ (∀ i, ¬ (h * 28 ≤ i ∧ i < h * 28 + 28) → T' i = T i) ∧ (∀ i u, cs[i]? = some u → T' (h * 28 + i) = u)) := by
    intro W5 hW5
    have hW5' : W4.setCells (blk .tasks) (h * 28) cs = W5 := by simpa using hW5
    subst hW5'
    have hh5 := H4.setCells eTs4 (h * 28) cs
    rw [bTs] at hh5
    refine ⟨touch_setCells _ _ _ _, _, hh5, fun i hi => ?_, fun i u hui => ?_⟩
    · rw [if_neg (by rw [hkl]; exact hi)]
    · have hi := (List.getElem?_eq_some_iff.1 hui).1
      rw [if_pos (by omega), show h * 28 + i - h * 28 = i by omega, hui]; rfl
  have hu5 : ∀ {y r}, (r : Rl) ≠ .tasks → (upd c4 .tasks y) r = c4 r := fun hr => upd_other _ _ hr
  obtain ⟨dT, hdT1, hdT2⟩ := row79
  obtain ⟨dR, hdR1, hdR2⟩ := row90
  obtain ⟨i46s, hi46s, hj46s⟩ : ∃ i, Try.prog.info? 38 = some i ∧ (i.zero, i.size, i.bytes) = (some (Value.agg #[.int .i64 0, .int .i64 0, .int .i64 0, .int .u64 0, .int .u64 0, .bool false]), 6, 48) := Option.map_eq_some_iff.1 info48z
  simp only [Prod.mk.injEq] at hj46s
  have HI46 := hide hi46s
  have HJ46 := hide hj46s
  have DT1 := hide hdT1
  have DT2 := hide hdT2
  have DR1 := hide hdR1
  have DR2 := hide hdR2
  have KL := hide hkl
  have LL := hide hLl
  have HK := hide hk
  have HL1 := hide hL1
  have HrK := hide rK
  have HthT := hide thT
  have HH4 := hide H4
  have HT4 := hide T4
  have HGS4 := hide GS4
  have HG := hide G
  have HHL := hide hL
  have HX := hide hx
  have HF := hide hf
  have HE := hide hend
  have HBQ := hide bq
  have HCQ := hide cq
  have HHU := hide hU
  have HA := hide hA
  have HKF := hide hKf
  have c8 : W4.cell? ⟨w.heap.size, 8, none⟩ = some (.slice (some ⟨blk .tasks, 0, none⟩) P.nh P.nh) := cellOf H4 eR4 bR (by omega) (lrow_of l8)
  have hhn : (h : Int) < (P.nh : Int) := by omega
  have hh0 : (0 : Int) ≤ (h : Int) := by omega
  have HREP := hide hrep
  clear hrep
  clear G H H4 T4 GS4 rK thT hL hL1 hk hT hU hA hKf hval hdT1 hdT2 hdR1 hdR2 hkl hLl hblk4 hc4 bq cq hx hf hend hi46s hj46s
  unfold Stp.val
  go_enter Try.func27, Try.ntmps27
  go_wp2_with (first
    | (refine wpList_load_mid (by rfl) 77 (.tmp 7) (by rfl) (w.heap.size + 1) 0 (by rfl) cs dT (by exact HrK.out) (by exact DT1.out) (by exact DT2.out) (by rw [KL.out]; exact size79) ?_)
    | (refine wpList_store_mid (by rfl) 77 (.tmp 15) (.tmp 14) (by rfl) (blk .tasks) (h * 28) cs.toArray (by rfl) (by rfl) (by simpa [KL.out] using HthT.out) (by simpa [KL.out] using size79) (by exact all_oneCell_toArray HK.out.2) ?_; obtain ⟨W5, hW5⟩ : ∃ W5, W4.setCells (blk .tasks) (h * 28) cs.toArray.toList = W5 := ⟨_, rfl⟩; rw [hW5]; obtain ⟨tt5, T', H5, hT1, hT2⟩ := KEEP.out W5 hW5; clear hW5; have sz5 := tt5.size; have HT1 := hide hT1; have HT2 := hide hT2; have HTT5 := hide tt5; have HH5 := hide H5; have p12 : W5.cell? ⟨w.heap.size, 12, none⟩ = some (.slice sa st.k sc) := (cellOf H5 ((hu5 (by simp)).trans eR4) bR (by omega) (lrow_of l12)); have p0 : W5.cell? ⟨w.heap.size + 2, 0, none⟩ = some (.int .i64 x.hand) := (cellOf H5 ((hu5 (by simp)).trans eS4) bS (by omega) rfl); have p1 : W5.cell? ⟨w.heap.size + 2, 1, none⟩ = some (.int .i64 x.act) := (cellOf H5 ((hu5 (by simp)).trans eS4) bS (by omega) rfl); have p2 : W5.cell? ⟨w.heap.size + 2, 2, none⟩ = some (.int .i64 x.at_) := (cellOf H5 ((hu5 (by simp)).trans eS4) bS (by omega) rfl); have p3 : W5.cell? ⟨w.heap.size + 2, 3, none⟩ = some (.int .u64 x.had) := (cellOf H5 ((hu5 (by simp)).trans eS4) bS (by omega) rfl); have p4 : W5.cell? ⟨w.heap.size + 2, 4, none⟩ = some (.int .u64 x.put) := (cellOf H5 ((hu5 (by simp)).trans eS4) bS (by omega) rfl); have p5 : W5.cell? ⟨w.heap.size + 2, 5, none⟩ = some (.bool x.ok) := (cellOf H5 ((hu5 (by simp)).trans eS4) bS (by omega) rfl); have HGS5 := hide (HGS4.out.upd' (r' := .tasks) (by simp) (some ⟨77, P.nh * 28, T'⟩)); clear tt5 H5 hT1 hT2)
    | (at_builtin; refine wpList_append_own_at _ (by rfl) (.tmp 17) (.tmp 19) 30 (by rfl) base 38 i46s (.agg #[.int .i64 0, .int .i64 0, .int .i64 0, .int .u64 0, .int .u64 0, .bool false]) 6 48 Try.underlying30 (by exact HI46.out) (by exact HJ46.out.1) (by exact HJ46.out.2.1) (by exact HJ46.out.2.2) (by rfl) (by decide) (.slice sa st.k sc) st.k (stepCells st.s st.k) (by rfl) (by exact HGS5.out.owns (HH5.out.alloc _) (stepCells_length _ _)) ⟨W5.heap.size, 0, none⟩ 1 1 x.cells (by rfl) (by rfl) (by exact cells_new W5 #[.int .i64 x.hand, .int .i64 x.act, .int .i64 x.at_, .int .u64 x.had, .int .u64 x.put, .bool x.ok] 38) (by exact step_one x) (by unfold maxLen; omega) (by omega) (by simp; omega) ?_; intro v6 w6 hown6 hg6 _ hat6; obtain ⟨nb, F6, cp, hv6, H6, GS6, hbn, hnb⟩ := Grows.appended HGS5.out HH5.out (by omega) ((Touch.refl W5 (fun _ => False)).alloc _) hown6 hg6 hat6; subst hv6; have HH6 := hide H6; have HGS6 := hide GS6; have HNB := hide hnb; have HTT6 := hide (((Touch.refl W5 (fun k => (∃ y, c .steps = some y) ∧ blk .steps = k)).alloc (.cells #[.int .i64 x.hand, .int .i64 x.act, .int .i64 x.at_, .int .u64 x.had, .int .u64 x.put, .bool x.ok] 38)).trans' (Touch.of_grown hg6) (by intro k hk hS; rcases HGS5.out with ⟨_, e1, _⟩ | ⟨cp', F', e1, e2, _⟩; (rw [e1] at hS; simp [Value.ownBlock] at hS); (rw [e1] at hS; simp only [Value.ownBlock, Option.some.injEq] at hS; exact ⟨⟨_, ((HCQ.out .steps (by simp)).symm.trans (hu5 (by simp)).symm).trans e2⟩, by rw [← bSt]; exact hS.symm⟩))); have sz6 := hg6.size; simp only [World.size_alloc] at sz6; have q12 : w6.cell? ⟨w.heap.size, 12, none⟩ = some (.slice sa st.k sc) := (cellOf H6 ((upd_other _ _ (by simp)).trans ((hu5 (by simp)).trans eR4)) ((upd_other _ _ (by simp)).trans bR) (by omega) (lrow_of l12)); have q14 : w6.cell? ⟨w.heap.size, 14, none⟩ = some (.int .i64 la) := (cellOf H6 ((upd_other _ _ (by simp)).trans ((hu5 (by simp)).trans eR4)) ((upd_other _ _ (by simp)).trans bR) (by omega) (lrow_of l14)); have qf : ∀ i, w6.frozen? ⟨w.heap.size, i, none⟩ = false := (fun i => frozenOf H6 ((upd_other _ _ (by simp)).trans ((hu5 (by simp)).trans eR4)) ((upd_other _ _ (by simp)).trans bR) i); have q12f := qf 12; have q14f := qf 14; clear qf H6 GS6 hown6 hg6 hat6 hbn hnb; have HW6 := hide (show w6 = w6 from rfl); obtain ⟨c7, H7, e7, e7o, hc7⟩ := two_sets HH6.out ((upd_other _ _ (by simp)).trans ((hu5 (by simp)).trans eR4)) ((upd_other _ _ (by simp)).trans bR) LL.out 12 14 (.slice (some ⟨nb, 0, none⟩) (st.k + 1) cp) (.int .i64 h) (by simp); have HH7 := hide H7; have HC7 := hide hc7; have HrL := hide e7; have HthO := hide (thereOf (o := 0) (m := 15) H7 ((hc7 _ (by simp)).trans ((upd_other _ _ (by simp)).trans ((hu5 (by simp)).trans eO4))) ((upd_other _ _ (by simp)).trans bO) (by omega)); have HLL1 := hide (set2_one HL1.out 12 14 (.slice (some ⟨nb, 0, none⟩) (st.k + 1) cp) (.int .i64 h) rfl rfl); clear H7 e7 hc7 e7o)
    | (refine wpList_load_mid (by rfl) 71 (.tmp 5) (by rfl) w.heap.size 0 (by rfl) ((L.set 12 (.slice (some ⟨nb, 0, none⟩) (st.k + 1) cp)).set 14 (.int .i64 h)) dR (by exact HrL.out) (by exact DR1.out) (by exact DR2.out) (by simp only [List.length_set]; rw [LL.out]; exact size90) ?_)
    | (refine wpList_store_mid (by rfl) 71 (.tmp 10) (.tmp 48) (by rfl) (w.heap.size + 3) 0 ((L.set 12 (.slice (some ⟨nb, 0, none⟩) (st.k + 1) cp)).set 14 (.int .i64 h)).toArray (by rfl) (by rfl) (by simpa [LL.out] using HthO.out) (by simpa [LL.out] using size90) (by exact HLL1.out) ?_))
  obtain ⟨LL2, hLL2⟩ : ∃ l, (L.set 12 (.slice (some ⟨nb, 0, none⟩) (st.k + 1) cp)).set 14 (.int .i64 h) = l := ⟨_, rfl⟩
  have hl2 : LL2.length = 15 := by rw [← hLL2]; simp [LL.out]
  have hval : (Value.agg LL2.toArray) = rv ⟨s0, s1, s2, s3, s4, s5⟩ P (upd blk .steps nb) capw (.slice aoh P.nh caph) (.slice (some ⟨nb, 0, none⟩) (st.k + 1) cp) h := by
    rw [← hLL2, HHL.out]; rfl
  simp only [hLL2] at HrL HthO HLL1 ⊢
  have eO7 := (HC7.out (.task 0 3) (by simp)).trans ((upd_other _ _ (by simp)).trans ((hu5 (by simp)).trans eO4))
  have bO7 : (upd blk4 .steps nb) (.task 0 3) = w.heap.size + 3 := (upd_other _ _ (by simp)).trans bO
  have H8 := HH7.out.setCells eO7 0 LL2
  rw [bO7] at H8
  have r8 := World.rangeAt_setCells_same _ (w.heap.size + 3) 0 LL2 (by rw [hl2]; exact HthO.out)
  have tt8 := touch_setCells (w.heap.size + 3) LL2 0 ((w6.setCell ⟨w.heap.size, 12, none⟩ (.slice (some ⟨nb, 0, none⟩) (st.k + 1) cp)).setCell ⟨w.heap.size, 14, none⟩ (.int .i64 h))
  have tt7 : Touch w6 ((w6.setCell ⟨w.heap.size, 12, none⟩ (.slice (some ⟨nb, 0, none⟩) (st.k + 1) cp)).setCell ⟨w.heap.size, 14, none⟩ (.int .i64 h)) (fun k => k = w.heap.size) := Touch.setCell (S := fun k => k = w.heap.size) (Touch.setCell (S := fun k => k = w.heap.size) (Touch.refl w6 _) ⟨w.heap.size, 12, none⟩ (.inl rfl) _) ⟨w.heap.size, 14, none⟩ (.inl rfl) _
  have cc : ∀ r, r ≠ .tasks → r ≠ .steps → bare (upd c7 (.task 0 3) (some ⟨71, 15, fun i => if 0 ≤ i ∧ i < 0 + LL2.length then LL2[i - 0]?.getD default else O i⟩)) r = bare c r := fun r h1 h2 => by
    by_cases ht : ∃ a b, r = .task a b
    · obtain ⟨a, b, rfl⟩ := ht; rfl
    · have ht' : ∀ a b, r ≠ .task a b := fun a b e => ht ⟨a, b, e⟩
      rw [bare_of ht', bare_of ht', upd_other _ _ (ht' 0 3), HC7.out r (ht' 0 0), upd_other _ _ h2, hu5 h1, HCQ.out r ht']
  have hsteps : bare (upd c7 (.task 0 3) (some ⟨71, 15, fun i => if 0 ≤ i ∧ i < 0 + LL2.length then LL2[i - 0]?.getD default else O i⟩)) .steps = (upd (upd c4 .tasks (some ⟨77, P.nh * 28, T'⟩)) .steps (some ⟨38, cp * 6, F6⟩)) .steps := by
    rw [bare_of (by simp), upd_other _ _ (by simp), HC7.out _ (by simp)]
  have htasks : bare (upd c7 (.task 0 3) (some ⟨71, 15, fun i => if 0 ≤ i ∧ i < 0 + LL2.length then LL2[i - 0]?.getD default else O i⟩)) .tasks = some ⟨77, P.nh * 28, T'⟩ := by
    rw [bare_of (by simp), upd_other _ _ (by simp), HC7.out _ (by simp), upd_other _ _ (by simp), upd_same]
  refine bodyPost_ret (v := .agg LL2.toArray) ?res rfl ⟨upd blk .steps nb, _, _, by rw [hval], H8.bare.congrBlk (fun r y e => ?_), ?good, ?tch⟩
  case res => exact results_c (by rfl) (by rfl) (run_loadVar_mid _ _ 0 _ LL2 dR r8 DR1.out DR2.out (by rw [hl2]; exact size90))
  case good =>
    refine HG.out.bare.goesOn hh hu HX.out HF.out HE.out HK.out HREP.out (fun r hr => upd_other _ _ hr) cc (by rw [bare_of (by simp)]; exact eT) htasks HT1.out HT2.out ?_
    have := HGS6.out
    unfold Grows at this ⊢
    rw [upd_same] at this ⊢
    rw [hsteps]
    exact this
  case tch =>
    refine ((((HT4.out.mono (S' := Own blk c) (fun _ _ h => h.elim)).trans' HTT5.out (fun k hk h => ⟨_, _, eT, h.symm⟩)).trans' HTT6.out (fun k hk h => ?_)).trans' tt7 (fun k hk h => absurd hk (by omega))).trans' tt8 (fun k hk h => absurd hk (by omega))
    obtain ⟨⟨y, hy⟩, hk'⟩ := h
    exact ⟨_, y, hy, hk'⟩
  · by_cases ht : ∃ a b, r = .task a b
    · obtain ⟨a, b, rfl⟩ := ht; cases e
    · have ht' : ∀ a b, r ≠ .task a b := fun a b e => ht ⟨a, b, e⟩
      by_cases hs : r = .steps
      · subst hs; rw [upd_same, upd_same]
      · rw [upd_other _ _ hs, upd_other _ _ hs, HBQ.out r ht']
end Go.Proofs.Ytmkkkknalldckaa
