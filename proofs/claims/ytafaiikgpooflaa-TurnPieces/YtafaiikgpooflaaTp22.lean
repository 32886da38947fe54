/-
  Lemmas: RKind, RViews, WkM, WkN, WkL, WkX.
-/
import Derived.Test.YtafaiikgpooflaaTp19
import Derived.Test.YtafaiikgpooflaaTp21
import Derived.Test.YtafaiikgpooflaaTp06
import Derived.Test.YtafaiikgpooflaaTp11
/-
  What a layer's reference does with its tasks.
-/
namespace Go.Proofs.Ytafaiikgpooflaa
open Go.RowKit
set_option linter.unusedVariables false

structure RKind (K : Kd) (rep : List Value → K.σ → Prop) (sh : Shp) (fst fsp : FuncId) : Prop where
  start : ∀ (k : Int) (j : Jb), 0 ≤ k → k < 8 → j.wf → ∃ cs, IsTk cs ∧ (K.err k j = 0 → rep cs (K.init k j)) ∧ ∀ w : World, Calls Try.prog fst #[sh.val, .int .i64 k, j.val, kept0] w fun e w' => e = .returned (.tuple #[.agg cs.toArray, .int .i64 (K.err k j)]) ∧ Below w.heap.size w w'
  step : ∀ (cs : List Value) (s : K.σ), IsTk cs → rep cs s → ∀ (n : Nat) (f : Nat → Int), (∀ i, i < n → 0 ≤ f i ∧ f i ≤ 18446744073709551615) → ∃ cs', IsTk cs' ∧ (¬ K.ends s (stepOf n f (K.req s)) = true → rep cs' (K.next s (stepOf n f (K.req s)))) ∧
    (K.ends s (stepOf n f (K.req s)) = true → cs'[22]? = some (.bool (K.tell (K.next s (stepOf n f (K.req s)))).ok) ∧ cs'[23]? = some (.int .u64 (K.tell (K.next s (stepOf n f (K.req s)))).val)) ∧ (∀ q, q < 4 → cs'[24 + q]? = some (.int .u64 0)) ∧
    ∀ (w : World) (g cap : Nat), IsRow w g n cap f → Calls Try.prog fsp #[.agg cs.toArray, .slice (some ⟨g, 0, none⟩) n cap] w fun e w' => e = .returned (.tuple #[.agg cs'.toArray, (stepOf n f (K.req s)).val, .bool (K.ends s (stepOf n f (K.req s)))]) ∧ IsRow w' g n cap (wordsOf n f (K.req s)) ∧ w.grownBy w' (some g)
end Go.Proofs.Ytafaiikgpooflaa

/-
  What both sides tell of a run.
-/
namespace Go.Proofs.Ytafaiikgpooflaa
open Go.RowKit
set_option linter.unusedVariables false
set_option linter.unusedSimpArgs false
set_option linter.unnecessarySimpa false
set_option maxRecDepth 20000

/-- What a run tells. -/
structure Vw where
  k : Nat
  s : Nat → Stp
  n : Nat
  f : Nat → Int
  en : Bool
  m : Nat
  dn : Nat → Nat
  an : Nat → Nat → Ans
  er : Int

/-- A told value, as it is seen. -/
def TV (w : World) (V : Vw) (v : Value) : Prop :=
  ∃ sa sc wa wc aa ac, v = .tuple #[.agg #[.slice sa V.k sc, .slice wa V.n wc, .bool V.en], .slice aa V.m ac, .int .i64 V.er] ∧ SeesS w w.heap.size sa V.k V.s ∧ Sees w w.heap.size wa V.n V.f ∧ SeesA w w.heap.size aa V.m V.dn V.an

/-- ran, whatever it is given. -/
def RAllR (K : Kd) (rep : List Value → K.σ → Prop) (w : World) (P : Par) (f : Nat → Int) (most : Int) (e : Ending) (w' : World) : Prop :=
  Below w.heap.size w w' ∧ ((∃ er, ErrOf K P most er ∧ e = .returned (errVal er)) ∨ (Fine P most ∧ AllOk K P ∧ ∃ v, e = .returned v ∧ RTold K rep P (runSt P (st0 K P f) most.toNat) (w.heap.size + 1) v w'))

theorem views (K : Kd) (rep : List Value → K.σ → Prop) (P : Par) (f : Nat → Int) (most : Int) : ∃ V : Vw, V.k ≤ 65536 ∧ V.n ≤ 4096 ∧ V.m ≤ 8 ∧ (∀ h, h < V.m → V.dn h ≤ 256) ∧
    (∀ w e w', RAllR K rep w P f most e w' → Below w.heap.size w w' ∧ ∃ v, e = .returned v ∧ TV w' V v) ∧ (∀ w e w', OfAny.AllB K w P f most e w' → Below w.heap.size w w' ∧ ∃ v, e = .returned v ∧ TV w' V v) := by
  by_cases hE : ∃ er, ErrOf K P most er
  · obtain ⟨er, hE⟩ := hE
    have tv : ∀ w, TV w ⟨0, fun _ => ⟨0, 0, 0, 0, 0, false⟩, 0, fun _ => 0, false, 0, fun _ => 0, fun _ _ => ⟨false, 0⟩, er⟩ (errVal er) := fun w => ⟨none, 0, none, 0, none, 0, rfl, fun j hj => absurd hj (Nat.not_lt_zero j), fun j hj => absurd hj (Nat.not_lt_zero j), fun j hj => absurd hj (Nat.not_lt_zero j)⟩
    refine ⟨⟨0, fun _ => ⟨0, 0, 0, 0, 0, false⟩, 0, fun _ => 0, false, 0, fun _ => 0, fun _ _ => ⟨false, 0⟩, er⟩, Nat.zero_le _, Nat.zero_le _, Nat.zero_le _, fun _ _ => Nat.zero_le _, ?_, ?_⟩
    · rintro w e w' ⟨hb, ⟨er', h, rfl⟩ | ⟨h1, h2, _⟩⟩
      · obtain rfl := h.one hE
        exact ⟨hb, _, rfl, tv w'⟩
      · exact absurd ⟨h1, h2⟩ hE.not
    · rintro w e w' ⟨hb, ⟨er', h, rfl⟩ | ⟨h1, h2, _⟩⟩
      · obtain rfl := h.one hE
        exact ⟨hb, _, rfl, tv w'⟩
      · exact absurd ⟨h1, h2⟩ hE.not
  · by_cases hf : Fine P most
    · have st := runSt P (st0 K P f) most.toNat
      have hk : (runSt P (st0 K P f) most.toNat).k ≤ 65536 := by
        have := (runSt_k P (st0 K P f) rfl most.toNat).1
        have := hf.2.2.2
        omega
      have hnh : P.nh ≤ 8 := by rcases Nat.lt_or_ge 8 P.nh with l | l; exact absurd (.inl l) hf.2.1; exact l
      by_cases hd : ∀ h, h < P.nh → (runSt P (st0 K P f) most.toNat).done h ≤ 256
      · refine ⟨⟨(runSt P (st0 K P f) most.toNat).k, (runSt P (st0 K P f) most.toNat).s, P.n, (runSt P (st0 K P f) most.toNat).f, decide (cnt ((runSt P (st0 K P f) most.toNat).going P) P.nh = 0), P.nh, (runSt P (st0 K P f) most.toNat).done, (runSt P (st0 K P f) most.toNat).ans, 0⟩, hk, hf.1, hnh, hd, ?_, ?_⟩
        · rintro w e w' ⟨hb, ⟨er', h, rfl⟩ | ⟨h1, h2, v, rfl, blk, c, un, capw, sv, rfl, H, G⟩⟩
          · exact absurd ⟨_, h⟩ hE
          · obtain ⟨sa, sc, rfl⟩ := G.steps.isSlice'
            exact ⟨hb, _, rfl, sa, sc, _, _, _, _, rfl, G.steps.seesS H, G.seesW H, seesA_of G.answers H⟩
        · rintro w e w' ⟨hb, ⟨er', h, rfl⟩ | ⟨h1, h2, v, rfl, blk, c, g, sv, rfl, H, G, GS, R, hg, hne⟩⟩
          · exact absurd ⟨_, h⟩ hE
          · obtain ⟨sa, sc, rfl⟩ := GS.isSlice'
            exact ⟨hb, _, rfl, sa, sc, _, _, _, _, rfl, GS.seesS H, R.sees, seesA_of G.answers H⟩
      · refine ⟨⟨0, fun _ => ⟨0, 0, 0, 0, 0, false⟩, 0, fun _ => 0, false, 0, fun _ => 0, fun _ _ => ⟨false, 0⟩, 0⟩, Nat.zero_le _, Nat.zero_le _, Nat.zero_le _, fun _ _ => Nat.zero_le _, ?_, ?_⟩
        · rintro w e w' ⟨hb, ⟨er', h, rfl⟩ | ⟨h1, h2, v, rfl, blk, c, un, capw, sv, rfl, H, G⟩⟩
          · exact absurd ⟨_, h⟩ hE
          · exact absurd (fun h hh => Nat.le_trans (G.doneLe h hh) (G.jobs h hh)) hd
        · rintro w e w' ⟨hb, ⟨er', h, rfl⟩ | ⟨h1, h2, v, rfl, blk, c, g, sv, rfl, H, G, GS, R, hg, hne⟩⟩
          · exact absurd ⟨_, h⟩ hE
          · exact absurd (fun h hh => Nat.le_trans (G.doneLe h hh) (G.jobs h hh)) hd
    · refine ⟨⟨0, fun _ => ⟨0, 0, 0, 0, 0, false⟩, 0, fun _ => 0, false, 0, fun _ => 0, fun _ _ => ⟨false, 0⟩, 0⟩, Nat.zero_le _, Nat.zero_le _, Nat.zero_le _, fun _ _ => Nat.zero_le _, ?_, ?_⟩
      · rintro w e w' ⟨hb, ⟨er', h, rfl⟩ | ⟨h1, _⟩⟩
        · exact absurd ⟨_, h⟩ hE
        · exact absurd h1 hf
      · rintro w e w' ⟨hb, ⟨er', h, rfl⟩ | ⟨h1, _⟩⟩
        · exact absurd ⟨_, h⟩ hE
        · exact absurd h1 hf

end Go.Proofs.Ytafaiikgpooflaa

/-
  What a run told, as rows to be written over and appended to.
-/
namespace Go.Proofs.Ytafaiikgpooflaa
open Go.RowKit
set_option linter.unusedVariables false
set_option linter.unusedSimpArgs false
set_option linter.unnecessarySimpa false
set_option maxRecDepth 20000
namespace WkM

theorem told_keep {K : Kd} {P : Par} {st : St K} {base : Nat} {v : Value} {w w' : World} {S : Nat → Prop} (h : Told K P st base v w) (ht : Touch w w' S) (hs : ∀ q, S q → q < base) : Told K P st base v w' := by
  obtain ⟨blk, c, g, sv, rfl, H, G, GS, R, hg, hne⟩ := h
  exact ⟨blk, c, g, sv, rfl, H.touch ht (fun r x e he => by have := H.new r x e; have := hs _ he; omega), G, GS, R.block (ht.block g R.lt (fun he => by have := hs _ he; omega)), hg, hne⟩
/-- A told run as it is seen. -/
theorem told_sees {K : Kd} {P : Par} {st : St K} {base : Nat} {v : Value} {w : World} (h : Told K P st base v w) : ∃ sa sc wa wc aa ac, v = .tuple #[.agg #[.slice sa st.k sc, .slice wa P.n wc, .bool (decide (cnt (st.going P) P.nh = 0))], .slice aa P.nh ac, .int .i64 0] ∧ SeesS w w.heap.size sa st.k st.s ∧ Sees w w.heap.size wa P.n st.f ∧ SeesA w w.heap.size aa P.nh st.done st.ans := by
  obtain ⟨blk, c, g, sv, rfl, H, G, GS, R, hg, hne⟩ := h
  obtain ⟨sa, sc, rfl⟩ := GS.isSlice'
  exact ⟨sa, sc, _, _, _, _, rfl, GS.seesS H, R.sees, seesA_of G.answers H⟩

theorem own_put {w : World} {base : Nat} {e : TypeId} {size : Nat} {v : Value} {n : Nat} {xs : List Value} (h : w.ownsRow base e size v n xs) (x o : Nat) (u : Value) : ∃ xs', (w.setCell ⟨x, o, none⟩ u).ownsRow base e size v n xs' := by
  obtain ⟨hl, h | ⟨g, cap, cur, rfl, hb, hg, hc, hm, hs, ht⟩⟩ := h
  · exact ⟨xs, hl, .inl h⟩
  · by_cases e1 : g = x
    · subst e1
      refine ⟨(cur.setIfInBounds o u).toList.take (n * size), ?_, .inr ⟨g, cap, _, rfl, hb, heap_setCell_same w g o cur e u hg, hc, hm, by simpa using hs, rfl⟩⟩
      have : n * size ≤ cap * size := Nat.mul_le_mul_right _ hc
      rw [List.length_take, Array.length_toList, Array.size_setIfInBounds, hs]
      exact Nat.min_eq_left this
    · exact ⟨xs, hl, .inr ⟨g, cap, cur, rfl, hb, by rw [Below.heap_setCell _ _ _ _ (fun e2 => e1 e2)]; exact hg, hc, hm, hs, ht⟩⟩
theorem row_ne_own {w : World} {ba : Nat} {t e : TypeId} {m : Nat} {F : Nat → Value} {base size : Nat} {v : Value} {n : Nat} {xs : List Value} (r : w.rowIs ba t m F) (h : w.ownsRow base e size v n xs) (hne : ¬ t = e) : v.ownBlock ≠ some ba := by
  obtain ⟨cur0, h0, _⟩ := r
  obtain ⟨_, ⟨rfl, _⟩ | ⟨g, cap, cur, rfl, hb, hg, _⟩⟩ := h
  · simp [Value.ownBlock]
  · intro e1
    simp [Value.ownBlock] at e1
    subst e1
    rw [h0] at hg
    injection hg with hg
    injection hg with _ h2 _
    exact hne h2

/-- The answers of the hands from i on, in rows of their own. -/
structure Cv (w : World) (base ba m : Nat) (dn : Nat → Nat) (i : Nat) (A : Nat → Value) : Prop where
  row : w.rowIs ba 38 m A
  own : ∀ h, i ≤ h → h < m → ∃ xs, w.ownsRow base 40 2 (A h) (dn h) xs
  sep : ∀ h h' x, i ≤ h → h < h' → h' < m → (A h).ownBlock = some x → (A h').ownBlock ≠ some x
theorem Cv.put {w : World} {base ba m : Nat} {dn : Nat → Nat} {i : Nat} {A : Nat → Value} (h : Cv w base ba m dn i A) (x o : Nat) (u : Value) (hx : x ≠ ba) : Cv (w.setCell ⟨x, o, none⟩ u) base ba m dn i A :=
  ⟨h.row.setOther (fun e => hx e.symm) _, fun q h1 h2 => by obtain ⟨xs, ho⟩ := h.own q h1 h2; exact own_put ho x o u, h.sep⟩
theorem Cv.drewN {w : World} {base ba m : Nat} {dn : Nat → Nat} {i : Nat} {A : Nat → Value} (h : Cv w base ba m dn i A) {w' : World} (hw : w'.heap = w.heap) : Cv w' base ba m dn i A :=
  ⟨h.row.of_block (by rw [hw]), fun q h1 h2 => by
    obtain ⟨xs, hl, o | ⟨g, cap, cur, e, hb, hg, hc, hm, hs, ht⟩⟩ := h.own q h1 h2
    · exact ⟨xs, hl, .inl o⟩
    · exact ⟨xs, hl, .inr ⟨g, cap, cur, e, hb, by rw [hw]; exact hg, hc, hm, hs, ht⟩⟩, h.sep⟩

/-- Hand i's answers have grown by q; those of the later ones are as they were. -/
structure Cw (w : World) (base ba m : Nat) (dn : Nat → Nat) (i q : Nat) (A : Nat → Value) : Prop where
  cv : Cv w base ba m dn (i + 1) A
  own : ∃ xs, w.ownsRow base 40 2 (A i) (dn i + q) xs
  sep : ∀ h x, i < h → h < m → (A i).ownBlock = some x → (A h).ownBlock ≠ some x
theorem Cv.cw {w : World} {base ba m : Nat} {dn : Nat → Nat} {i : Nat} {A : Nat → Value} (h : Cv w base ba m dn i A) (hi : i < m) : Cw w base ba m dn i 0 A :=
  ⟨⟨h.row, fun q h1 h2 => h.own q (by omega) h2, fun q q' x h1 h2 h3 => h.sep q q' x (by omega) h2 h3⟩, h.own i (Nat.le_refl _) hi, fun q x h1 h2 => h.sep i q x (Nat.le_refl _) h1 h2⟩
theorem Cw.step {w w' : World} {base ba m : Nat} {dn : Nat → Nat} {i q : Nat} {A : Nat → Value} {o : Obj} {v' : Value} {xs' : List Value} (h : Cw w base ba m dn i q A) (own' : w'.ownsRow base 40 2 v' (dn i + q + 1) xs') (G : (w.alloc o).grownBy w' (A i).ownBlock) (hd : v'.ownBlock = (A i).ownBlock ∨ v'.ownBlock = some (w.alloc o).heap.size) :
    Cw (w'.setCell ⟨ba, i, none⟩ v') base ba m dn i (q + 1) (upd A i v') := by
  obtain ⟨xs, ho⟩ := h.own
  have hne : (A i).ownBlock ≠ some ba := row_ne_own h.cv.row ho (by decide)
  have hr : w'.rowIs ba 38 m A := (h.cv.row.alloc o).of_block (G.block ba (h.cv.row.alloc o).lt (fun e => hne e.symm))
  have lt1 : ∀ k, i < k → k < m → ∀ x, (A k).ownBlock = some x → x < w.heap.size := fun k h1 h2 x e => by
    obtain ⟨ys, hk⟩ := h.cv.own k (by omega) h2
    exact (hk.lt x e).2
  refine ⟨⟨?_, fun k h1 h2 => ?_, fun k k' x h1 h2 h3 e => ?_⟩, ?_, fun k x h1 h2 e => ?_⟩
  · refine (hr.set i v').congr (fun k hk => ?_)
    by_cases e : k = i
    · subst e; simp
    · rw [upd_other _ _ e, if_neg e]
  · rw [upd_other _ _ (by omega)]
    obtain ⟨ys, hk⟩ := h.cv.own k h1 h2
    have hk2 := (hk.alloc o).kept G (by
      cases e : (A k).ownBlock with
      | none => exact .inl rfl
      | some x => exact .inr (fun e2 => h.sep k x (by omega) h2 (e2.symm) e))
    exact own_put hk2 _ _ _
  · rw [upd_other _ _ (by omega)] at e ⊢
    exact h.cv.sep k k' x h1 h2 h3 e
  · rw [upd_same]
    obtain ⟨ys, hy⟩ := own_put own' ba i v'
    exact ⟨ys, by rw [← Nat.add_assoc]; exact hy⟩
  · rw [upd_same] at e
    rw [upd_other _ _ (by omega)]
    rcases hd with hd | hd
    · exact h.sep k x h1 h2 (by rw [← hd]; exact e)
    · intro e2
      have := lt1 k h1 h2 x e2
      rw [hd] at e
      simp at e
      omega
/-- The answers and the words of a told run. -/
theorem told_cv {K : Kd} {P : Par} {st : St K} {base : Nat} {v : Value} {w : World} (h : Told K P st base v w) : ∃ sa sc g ba A, v = .tuple #[.agg #[.slice sa st.k sc, .slice (some ⟨g, 0, none⟩) P.n P.n, .bool (decide (cnt (st.going P) P.nh = 0))], .slice (some ⟨ba, 0, none⟩) P.nh P.nh, .int .i64 0] ∧ base ≤ g ∧ base ≤ ba ∧ g ≠ ba ∧ IsRow w g P.n P.n st.f ∧ Cv w base ba P.nh st.done 0 A ∧ (∀ h, h < P.nh → st.done h ≤ 256) ∧
    SeesS w w.heap.size sa st.k st.s ∧ SeesA w w.heap.size (some ⟨ba, 0, none⟩) P.nh st.done st.ans := by
  obtain ⟨blk, c, g, sv, rfl, H, G, GS, R, hg, hne⟩ := h
  obtain ⟨A, eA, hA⟩ := G.answers
  obtain ⟨sa, sc, rfl⟩ := GS.isSlice'
  refine ⟨sa, sc, g, blk .answers, A, rfl, hg, H.new _ _ eA, fun e => hne _ _ eA e.symm, R, ⟨H.row _ _ eA, fun h _ hh => ⟨_, (hA h hh).owns H (ansCells_length _ _)⟩, fun h h' x _ hl hm e e' => ?_⟩, fun h hh => Nat.le_trans (G.doneLe h hh) (G.jobs h hh), GS.seesS H, seesA_of G.answers H⟩
  rcases hA h (by omega) with ⟨_, ev, _⟩ | ⟨cap, F, ev, hc, _⟩
  · rw [ev] at e; cases e
  · rcases hA h' hm with ⟨_, ev', _⟩ | ⟨cap', F', ev', hc', _⟩
    · rw [ev'] at e'; cases e'
    · rw [ev] at e
      rw [ev'] at e'
      simp [Value.ownBlock] at e e'
      exact H.ne hc hc' (by intro z; cases z; omega) (by rw [e, e'])
end WkM
end Go.Proofs.Ytafaiikgpooflaa

/-
  Runs in pieces: a shorter run is the beginning of a longer one; a schedule cut behind the last step makes the same run.
-/
namespace Go.Proofs.Ytafaiikgpooflaa
open Go.RowKit
set_option linter.unusedVariables false
set_option linter.unusedSimpArgs false
namespace WkN
variable {K : Kd} {P : Par} {st : St K}

theorem cnt_pos {g : Nat → Bool} {q : Nat} (hg : g q = true) : ∀ {n : Nat}, q < n → cnt g n ≠ 0
  | 0, h => absurd h (Nat.not_lt_zero _)
  | n + 1, h => by
    simp only [cnt]
    by_cases e : q = n
    · subst e; simp [hg]
    · have := cnt_pos hg (n := n) (by omega)
      omega
theorem run_succ (m : Nat) : runSt P st (m + 1) = if (runSt P st m).turn P < 0 then runSt P st m else stepSt P (runSt P st m) ((runSt P st m).turn P).toNat := rfl
/-- What stands behind m steps stands behind more. -/
structure Pre (P : Par) (a b : St K) : Prop where
  k : a.k ≤ b.k
  s : ∀ i, i < a.k → b.s i = a.s i
  d : ∀ h, a.done h ≤ b.done h
  a : ∀ h j, j < a.done h → b.ans h j = a.ans h j
theorem Pre.refl (a : St K) : Pre P a a := ⟨Nat.le_refl _, fun _ _ => rfl, fun _ => Nat.le_refl _, fun _ _ _ => rfl⟩
theorem Pre.trans {a b c : St K} (h : Pre P a b) (g : Pre P b c) : Pre P a c :=
  ⟨Nat.le_trans h.k g.k, fun i hi => (g.s i (Nat.lt_of_lt_of_le hi h.k)).trans (h.s i hi), fun q => Nat.le_trans (h.d q) (g.d q), fun q j hj => (g.a q j (Nat.lt_of_lt_of_le hj (h.d q))).trans (h.a q j hj)⟩
theorem pre_step (a : St K) (h : Nat) : Pre P a (stepSt P a h) := by
  refine ⟨by simp [stepSt], fun i hi => ?_, fun q => ?_, fun q j hj => ?_⟩
  · simp only [stepSt]
    rw [upd_other _ _ (by omega)]
  · simp only [stepSt]
    split
    · by_cases e : q = h
      · subst e; rw [upd_same]; omega
      · rw [upd_other _ _ e]; exact Nat.le_refl _
    · exact Nat.le_refl _
  · simp only [stepSt]
    split
    · by_cases e : q = h
      · subst e; rw [upd_same, upd_other _ _ (by omega)]
      · rw [upd_other _ _ e]
    · rfl
theorem pre_run (m : Nat) : ∀ d, Pre P (runSt P st m) (runSt P st (m + d))
  | 0 => Pre.refl _
  | d + 1 => by
    refine (pre_run m d).trans ?_
    rw [← Nat.add_assoc, run_succ]
    split
    · exact Pre.refl _
    · exact pre_step _ _
theorem pre_of {m m' : Nat} (h : m ≤ m') : Pre P (runSt P st m) (runSt P st m') := by
  obtain ⟨d, rfl⟩ : ∃ d, m' = m + d := ⟨m' - m, by omega⟩
  exact pre_run m d
/-- As many steps as there were rounds, or none goes on. -/
theorem k_run (h0 : st.k = 0) : ∀ m, (runSt P st m).k = m ∨ ((runSt P st m).k < m ∧ (runSt P st m).turn P < 0)
  | 0 => .inl h0
  | m + 1 => by
    rw [run_succ]
    rcases k_run h0 m with h | ⟨h, ht⟩
    · split
      · rename_i ht
        exact .inr ⟨by omega, ht⟩
      · left
        simp only [stepSt]
        omega
    · rw [if_pos ht]
      exact .inr ⟨by omega, ht⟩
theorem k_min (h0 : st.k = 0) {m m' : Nat} (h : m ≤ m') : (runSt P st m).k = min m (runSt P st m').k := by
  have hp := (pre_of (P := P) (st := st) h).k
  rcases k_run (P := P) h0 m with e | ⟨l, ht⟩
  · omega
  · obtain ⟨d, rfl⟩ : ∃ d, m' = m + d := ⟨m' - m, by omega⟩
    rw [runSt_stuck ht d]
    omega
/-- A schedule cut. -/
def cutP (P : Par) (c : Nat) : Par := { P with ns := min P.ns c }
theorem turn_cut (c : Nat) (a : St K) (h : a.k < c) : a.turn (cutP P c) = a.turn P := by
  unfold St.turn
  have e : (a.k < (cutP P c).ns) ↔ (a.k < P.ns) := by
    show a.k < min P.ns c ↔ _
    omega
  by_cases l : a.k < P.ns
  · rw [if_pos (e.2 l), if_pos l]; rfl
  · rw [if_neg (fun t => l (e.1 t)), if_neg l]; rfl
theorem step_cut (c : Nat) (a : St K) (h : Nat) : stepSt (cutP P c) a h = stepSt P a h := rfl
theorem stuck_any {a : St K} (c : Nat) (h : a.turn P < 0) : a.turn (cutP P c) < 0 := by
  rcases turn_ok P a with ⟨_, h1⟩ | ⟨q, h1, _, _⟩
  · rcases turn_ok (cutP P c) a with ⟨h2, _⟩ | ⟨q, h2, h3, h4⟩
    · omega
    · exfalso
      have : cnt (a.going P) P.nh = 0 := h1
      have h5 : a.done q < P.jn q := h4
      have hg : a.going P q = true := by simpa [St.going] using h5
      exact cnt_pos hg h3 this
  · omega
theorem run_cut (h0 : st.k = 0) (m : Nat) : ∀ q, q ≤ m → runSt (cutP P (runSt P st m).k) st q = runSt P st q
  | 0, _ => rfl
  | q + 1, hq => by
    have ih := run_cut h0 m q (by omega)
    rw [run_succ, run_succ, ih]
    rcases k_run (P := P) h0 q with hk | ⟨hk, ht⟩
    · by_cases hs : (runSt P st q).turn P < 0
      · rw [if_pos hs, if_pos (stuck_any _ hs)]
      · have h1 : (runSt P st (q + 1)).k = q + 1 := by rw [run_succ, if_neg hs]; simp only [stepSt]; omega
        have h2 := (pre_of (P := P) (st := st) hq).k
        rw [turn_cut _ _ (by omega), step_cut]
    · rw [if_pos ht, if_pos (stuck_any _ ht)]
end WkN
end Go.Proofs.Ytafaiikgpooflaa

/-
  TurnPieces: small things: slices cut, marked lists, what a Play tells.
-/
namespace Go.Proofs.Ytafaiikgpooflaa
open Go.RowKit
set_option linter.unusedVariables false
set_option linter.unusedSimpArgs false
set_option linter.unnecessarySimpa false
set_option maxRecDepth 20000
namespace WkL
open WkK (kWk)

theorem cutU {ao : Option Addr} {n cap q : Nat} (h : q ≤ cap) : ∀ w, (Instr.slice 22 (.slice ao n cap) none (some (.int .i64 (q : Int))) none).run Try.prog w = .ok (.slice ao q cap) w := by
  intro w
  have hs : (sizeOf (Try.prog.elem 22)).run Try.prog w = .ok 1 w := by kernel_rfl
  have hz := run_slice_h (P := Try.prog) w 22 ao n cap (by kernel_rfl) .i64 (q : Int) (by omega) (by omega)
  rw [hz, hs]
  cases ao with
  | none => simp [Result.andThen, sliced]
  | some ad =>
    obtain ⟨b, o, sp⟩ := ad
    simp [Result.andThen, sliced, Addr.add]
theorem cutI {ao : Option Addr} {n cap q : Nat} (h : q ≤ cap) : ∀ w, (Instr.slice 24 (.slice ao n cap) none (some (.int .i64 (q : Int))) none).run Try.prog w = .ok (.slice ao q cap) w := by
  intro w
  have hs : (sizeOf (Try.prog.elem 24)).run Try.prog w = .ok 1 w := by kernel_rfl
  have hz := run_slice_h (P := Try.prog) w 24 ao n cap (by kernel_rfl) .i64 (q : Int) (by omega) (by omega)
  rw [hz, hs]
  cases ao with
  | none => simp [Result.andThen, sliced]
  | some ad =>
    obtain ⟨b, o, sp⟩ := ad
    simp [Result.andThen, sliced, Addr.add]

theorem upI {w : World} {B C : Nat} {ao : Option Addr} {n : Nat} {s : Nat → Int} (h : SeesI w B ao n s) (hb : B ≤ C) : SeesI w C ao n s := fun j hj => by
  obtain ⟨b, off, e, h1, h2⟩ := h j hj
  exact ⟨b, off, e, Nat.lt_of_lt_of_le h1 hb, h2⟩
theorem upH {w : World} {B C : Nat} {ao : Option Addr} {nh : Nat} {jn : Nat → Nat} {jb : Nat → Nat → Jb} (h : SeesH w B ao nh jn jb) (hb : B ≤ C) : SeesH w C ao nh jn jb := fun q hq => by
  obtain ⟨b, off, av, cap, e, h1, h2, h3⟩ := h q hq
  refine ⟨b, off, av, cap, e, Nat.lt_of_lt_of_le h1 hb, h2, fun i hi => ?_⟩
  obtain ⟨b', off', e', h4, h5⟩ := h3 i hi
  exact ⟨b', off', e', Nat.lt_of_lt_of_le h4 hb, h5⟩
theorem cutS {w : World} {B : Nat} {ao : Option Addr} {n m : Nat} {s : Nat → Int} (h : SeesI w B ao n s) (hm : m ≤ n) : SeesI w B ao m s := fun j hj => h j (Nat.lt_of_lt_of_le hj hm)
def numCells (n : Nat) (s : Nat → Int) : List Value := (List.range n).map (fun i => Value.int .i64 (s i))
theorem numCells_one (n : Nat) (s : Nat → Int) : ∀ u ∈ numCells n s, u.oneCell' = true := by
  intro u hu
  simp only [numCells, List.mem_map] at hu
  obtain ⟨i, _, rfl⟩ := hu
  rfl
def mk (n : Nat) (s : Nat → Int) : Nat → Int := fun i => if i < n then s i else 77
theorem mkI_cells (n : Nat) (s : Nat → Int) : numCells n s ++ [.int .i64 77] = numCells (n + 1) (mk n s) := by
  apply List.ext_getElem?
  intro i
  by_cases hi : i < n
  · rw [List.getElem?_append_left (by simpa [numCells] using hi)]
    have h2 : i < n + 1 := by omega
    simp [numCells, hi, h2, mk]
  · rw [List.getElem?_append_right (by simp [numCells]; omega)]
    by_cases he : i = n
    · subst he; simp [numCells, mk]
    · have h2 : ¬ i < n + 1 := by omega
      have h3 : ¬ i - n = 0 := by omega
      simp [numCells, h2, h3]
theorem mkW_cells (n : Nat) (s : Nat → Int) : wordCells n s ++ [.int .u64 77] = wordCells (n + 1) (mk n s) := by
  apply List.ext_getElem?
  intro i
  by_cases hi : i < n
  · rw [List.getElem?_append_left (by simpa [wordCells] using hi)]
    have h2 : i < n + 1 := by omega
    simp [wordCells, hi, h2, mk]
  · rw [List.getElem?_append_right (by simp [wordCells]; omega)]
    by_cases he : i = n
    · subst he; simp [wordCells, mk]
    · have h2 : ¬ i < n + 1 := by omega
      have h3 : ¬ i - n = 0 := by omega
      simp [wordCells, h2, h3]
theorem mk_lt {n i : Nat} {s : Nat → Int} (h : i < n) : mk n s i = s i := by simp [mk, h]
theorem mk_at (n : Nat) (s : Nat → Int) : mk n s n = 77 := by simp [mk]
theorem info3e : ∃ i, Try.prog.info? 3 = some i ∧ i.zero = some (.int .i64 0) ∧ i.size = 1 ∧ i.bytes = 8 := by
  have h : (Try.prog.info? 3).map (fun i => (i.zero, i.size, i.bytes)) = some (some (.int .i64 0), 1, 8) := by kernel_rfl
  obtain ⟨i, h1, h2⟩ := Option.map_eq_some_iff.1 h
  injection h2 with h2 h3
  injection h3 with h3 h4
  exact ⟨i, h1, h2, h3, h4⟩
theorem infoA : ∃ i, Try.prog.info? 40 = some i ∧ i.zero = some (.agg #[.bool false, .int .u64 0]) ∧ i.size = 2 ∧ i.bytes = 16 := by
  have h : (Try.prog.info? 40).map (fun i => (i.zero, i.size, i.bytes)) = some (some (.agg #[.bool false, .int .u64 0]), 2, 16) := by kernel_rfl
  obtain ⟨i, h1, h2⟩ := Option.map_eq_some_iff.1 h
  injection h2 with h2 h3
  injection h3 with h3 h4
  exact ⟨i, h1, h2, h3, h4⟩
theorem newsI {w : World} {B : Nat} {ao : Option Addr} {n : Nat} {s : Nat → Int} (h : SeesI w B ao n s) : ∀ ad, ao = some ad → ∀ j u, (numCells n s)[j]? = some u → w.cell? (ad.add j) = some u := by
  intro ad hao j u hu
  have hj : j < n := by have := (List.getElem?_eq_some_iff.1 hu).1; simpa [numCells] using this
  obtain ⟨b, off, he, hbl, hcc⟩ := h j hj
  rw [hao] at he
  cases he
  have : u = .int .i64 (s j) := by simp [numCells, hj] at hu; exact hu.symm
  subst this
  rw [Go.WideShapes.add_plain]
  exact hcc
theorem own_some {w : World} {base n size : Nat} {e : TypeId} {v : Value} {xs : List Value} (h : w.ownsRow base e size v n xs) (hn : 0 < n) : ∃ g cap, v = .slice (some ⟨g, 0, none⟩) n cap ∧ base ≤ g ∧ g < w.heap.size ∧ n ≤ cap ∧ cap ≤ maxLen := by
  obtain ⟨hl, ⟨rfl, h2⟩ | ⟨g, cap, cur, rfl, hb, hg, hc, hm, hsz, ht⟩⟩ := h
  · omega
  · exact ⟨g, cap, rfl, hb, (Array.getElem?_eq_some_iff.1 hg).1, hc, hm⟩
theorem seesI_of {w : World} {base n g cap : Nat} {s : Nat → Int} (h : w.ownsRow base 3 1 (.slice (some ⟨g, 0, none⟩) n cap) n (numCells n s)) : SeesI w w.heap.size (some ⟨g, 0, none⟩) n s := fun j hj => by
  refine ⟨g, 0, rfl, (h.lt g rfl).2, ?_⟩
  rw [Nat.zero_add, h.cellAt j (by omega)]
  simp [numCells, hj]
theorem owns_nil0 {w : World} {z : Nat} {e : TypeId} {size : Nat} (hz : z ≤ w.heap.size) : (w.alloc (.cells #[] e)).ownsRow z e size (.slice (some ⟨w.heap.size, 0, none⟩) 0 0) 0 [] := by
  have := World.ownsRow_lit (base := z) (e := e) (size := size) w #[] 0 hz (by unfold maxLen; omega) (by simp)
  simpa using this
theorem below_new {w w' : World} {z : Nat} {o : Obj} {r : Option Nat} (hz : z ≤ w.heap.size) (g : (w.alloc o).grownBy w' r) (hr : ∀ x, r = some x → z ≤ x) : Below z w w' :=
  ((Below.refl z w).alloc hz o).trans ⟨g.os, g.tape, g.output, g.size, fun k hk => g.block k (by simp; omega) (fun e => by have := hr k e.symm; omega)⟩
theorem one_val {v u : Value} {q : Nat} (h : [v][q]? = some u) : q = 0 ∧ u = v := by
  match q, h with
  | 0, h => exact ⟨rfl, by simpa using h.symm⟩
theorem told_low {K : Kd} {P : Par} {st : St K} {base base' : Nat} {v : Value} {w : World} (h : Told K P st base v w) (hb : base' ≤ base) : Told K P st base' v w := by
  obtain ⟨blk, c, g, sv, rfl, H, G, GS, R, hg, hne⟩ := h
  exact ⟨blk, c, g, sv, rfl, ⟨H.inj, H.row, fun r x e => Nat.le_trans hb (H.new r x e)⟩, G, GS, R, Nat.le_trans hb hg, hne⟩

/-- What the first Play tells: an error, or the run. -/
def Fst (z : Nat) (P : Par) (f : Nat → Int) (most : Int) (e : Ending) (w' : World) : Prop :=
  ∃ sa k sc wa n wc en aa m ac er, e = .returned (.tuple #[.agg #[.slice sa k sc, .slice wa n wc, .bool en], .slice aa m ac, .int .i64 er]) ∧ (er = 0 → Fine P most ∧ AllOk kWk P ∧ Told kWk P (runSt P (st0 kWk P f) most.toNat) z (.tuple #[.agg #[.slice sa k sc, .slice wa n wc, .bool en], .slice aa m ac, .int .i64 er]) w')
theorem fst_of {w : World} {P : Par} {f : Nat → Int} {most : Int} {e : Ending} {w' : World} {z : Nat} (h : OfAny.AllB kWk w P f most e w') (hz : z ≤ w.heap.size + 1) : Fst z P f most e w' := by
  rcases h.2 with ⟨er, he, rfl⟩ | ⟨h1, h2, v, rfl, hT⟩
  · exact ⟨none, 0, 0, none, 0, 0, false, none, 0, 0, er, rfl, fun e => absurd e he.ne⟩
  · obtain ⟨sa, sc, wa, wc, aa, ac, ev, _⟩ := WkM.told_sees hT
    subst ev
    exact ⟨_, _, _, _, _, _, _, _, _, _, _, rfl, fun _ => ⟨h1, h2, told_low hT hz⟩⟩
theorem run_of {w : World} {P : Par} {f : Nat → Int} {most : Int} {e : Ending} {w' : World} (h : OfAny.AllB kWk w P f most e w') (hF : Fine P most) (hA : AllOk kWk P) : Below w.heap.size w w' ∧ ∃ v, e = .returned v ∧ Told kWk P (runSt P (st0 kWk P f) most.toNat) (w.heap.size + 1) v w' := by
  refine ⟨h.1, ?_⟩
  rcases h.2 with ⟨er, he, rfl⟩ | ⟨h1, h2, v, rfl, hT⟩
  · exact absurd ⟨hF, hA⟩ he.not
  · exact ⟨v, rfl, hT⟩
end WkL
end Go.Proofs.Ytafaiikgpooflaa

/-
  TurnPieces: what stands while the answers of a run are written over.
-/
namespace Go.Proofs.Ytafaiikgpooflaa
open Go.RowKit
set_option linter.unusedVariables false
set_option linter.unusedSimpArgs false
set_option linter.unnecessarySimpa false
set_option maxRecDepth 20000
namespace WkX
open WkK (kWk)
open WkM WkL

theorem told_cut {P : Par} {c : Nat} {st : St kWk} {base : Nat} {v : Value} {w : World} (h : Told kWk (WkN.cutP P c) st base v w) : ∃ sa sc g ba A, v = .tuple #[.agg #[.slice sa st.k sc, .slice (some ⟨g, 0, none⟩) P.n P.n, .bool (decide (cnt (st.going P) P.nh = 0))], .slice (some ⟨ba, 0, none⟩) P.nh P.nh, .int .i64 0] ∧ base ≤ g ∧ base ≤ ba ∧ g ≠ ba ∧ IsRow w g P.n P.n st.f ∧ Cv w base ba P.nh st.done 0 A ∧ (∀ h, h < P.nh → st.done h ≤ 256) ∧
    SeesS w w.heap.size sa st.k st.s ∧ SeesA w w.heap.size (some ⟨ba, 0, none⟩) P.nh st.done st.ans := told_cv (P := WkN.cutP P c) h
theorem cv_below {w w' : World} {base ba m : Nat} {dn : Nat → Nat} {i : Nat} {A : Nat → Value} (h : Cv w base ba m dn i A) (hb : Below w.heap.size w w') : Cv w' base ba m dn i A :=
  ⟨h.row.of_block (hb.block ba h.row.lt), fun q h1 h2 => by
    obtain ⟨xs, hl, o | ⟨g, cap, cur, e, hb', hg, hc, hm, hs, ht⟩⟩ := h.own q h1 h2
    · exact ⟨xs, hl, .inl o⟩
    · exact ⟨xs, hl, .inr ⟨g, cap, cur, e, hb', by rw [hb.block g (Array.getElem?_eq_some_iff.1 hg).1]; exact hg, hc, hm, hs, ht⟩⟩, h.sep⟩

theorem own_val {w : World} {base : Nat} {e : TypeId} {size : Nat} {v : Value} {n : Nat} {xs : List Value} (h : w.ownsRow base e size v n xs) : ∃ av cp, v = .slice av n cp := by
  obtain ⟨_, ⟨rfl, h0⟩ | ⟨g, c, _, rfl, _⟩⟩ := h
  · exact ⟨none, 0, by rw [h0]⟩
  · exact ⟨_, _, rfl⟩
theorem ans_cell {w : World} {base : Nat} {e : TypeId} {av : Option Addr} {d cp : Nat} {xs : List Value} (h : w.ownsRow base e 2 (.slice av d cp) d xs) {k : Nat} (hk : k < d) : ∃ g u, av = some ⟨g, 0, none⟩ ∧ base ≤ g ∧ w.cell? ⟨g, k * 2 + 1, none⟩ = some u ∧ w.frozen? ⟨g, k * 2 + 1, none⟩ = false := by
  obtain ⟨hl, ⟨h1, h2⟩ | ⟨g, cap, cur, h1, hb, hg, hc, hm, hs, ht⟩⟩ := h
  · omega
  · cases h1
    have hi : k * 2 + 1 < cur.size := by rw [hs]; omega
    refine ⟨g, cur[k * 2 + 1], rfl, hb, ?_, ?_⟩
    · simp [World.cell?, hg, hi]
    · simp [World.frozen?, hg]
theorem cw_row {w w' : World} {base ba m : Nat} {dn : Nat → Nat} {i q : Nat} {A : Nat → Value} {o : Obj} (h : Cw w base ba m dn i q A) (G : (w.alloc o).grownBy w' (A i).ownBlock) : w'.rowIs ba 38 m A := by
  obtain ⟨xs, ho⟩ := h.own
  exact (h.cv.row.alloc o).of_block (G.block ba (h.cv.row.alloc o).lt (fun e => row_ne_own h.cv.row ho (by decide) e.symm))
/-- What stands while what the third run told is written over. -/
structure Ws (w7 wr : World) (n cw gw g3 b3 base : Nat) (tv : List Value) : Prop where
  t : Touch w7 wr (fun q => q = gw)
  rw : ∃ F, IsRow wr gw (n + 1) cw F
  r3 : ∃ G, IsRow wr g3 n n G
  rb : wr.rowIs b3 29 3 (lrow tv)
  lw : gw < w7.heap.size
  l3 : w7.heap.size ≤ g3
  lb : w7.heap.size ≤ b3
  n3 : g3 ≠ b3
  hb : w7.heap.size ≤ base
namespace Ws
variable {w7 wr : World} {n cw gw g3 b3 base : Nat} {tv : List Value}
theorem setw (h : Ws w7 wr n cw gw g3 b3 base tv) (k : Nat) (v : Int) (hv : 0 ≤ v ∧ v ≤ 18446744073709551615) : Ws w7 (wr.setCell ⟨gw, k, none⟩ (.int .u64 v)) n cw gw g3 b3 base tv := by
  obtain ⟨F, hF⟩ := h.rw
  obtain ⟨G, hG⟩ := h.r3
  have h1 := h.lw
  have h2 := h.l3
  have h3 := h.lb
  exact ⟨h.t.setCell ⟨gw, k, none⟩ (.inl rfl) _, ⟨_, hF.set k v hv⟩, ⟨G, hG.setOther (by simp only; omega) _⟩, h.rb.setOther (by simp only; omega) _, h1, h2, h3, h.n3, h.hb⟩
theorem set3 (h : Ws w7 wr n cw gw g3 b3 base tv) (k : Nat) (v : Int) (hv : 0 ≤ v ∧ v ≤ 18446744073709551615) : Ws w7 (wr.setCell ⟨g3, k, none⟩ (.int .u64 v)) n cw gw g3 b3 base tv := by
  obtain ⟨F, hF⟩ := h.rw
  obtain ⟨G, hG⟩ := h.r3
  have h1 := h.lw
  have h2 := h.l3
  have h3 := h.lb
  have h4 := h.n3
  exact ⟨h.t.setCell ⟨g3, k, none⟩ (.inr h2) _, ⟨F, hF.setOther (by simp only; omega) _⟩, ⟨_, hG.set k v hv⟩, h.rb.setOther (by simp only; omega) _, h1, h2, h3, h4, h.hb⟩
theorem ne3 (h : Ws w7 wr n cw gw g3 b3 base tv) {v : Value} {m : Nat} {xs : List Value} (o : wr.ownsRow base 40 2 v m xs) : v.ownBlock ≠ some g3 := by
  obtain ⟨G, _, _, ⟨F, hr, _⟩, _⟩ := h.r3
  exact row_ne_own hr o (by decide)
theorem neb (h : Ws w7 wr n cw gw g3 b3 base tv) {v : Value} {m : Nat} {xs : List Value} (o : wr.ownsRow base 40 2 v m xs) : v.ownBlock ≠ some b3 := row_ne_own h.rb o (by decide)
/-- A cell of an answers' row. -/
theorem seta (h : Ws w7 wr n cw gw g3 b3 base tv) {x : Nat} (k : Nat) (u : Value) (hx : base ≤ x) (h3 : x ≠ g3) (hb3 : x ≠ b3) : Ws w7 (wr.setCell ⟨x, k, none⟩ u) n cw gw g3 b3 base tv := by
  obtain ⟨F, hF⟩ := h.rw
  obtain ⟨G, hG⟩ := h.r3
  have h1 := h.lw
  have h2 := h.hb
  exact ⟨h.t.setCell ⟨x, k, none⟩ (.inr (by simp only; omega)) _, ⟨F, hF.setOther (by simp only; omega) _⟩, ⟨G, hG.setOther (by simp only; omega) _⟩, h.rb.setOther (by simp only; omega) _, h1, h.l3, h.lb, h.n3, h2⟩
theorem app (h : Ws w7 wr n cw gw g3 b3 base tv) {w' : World} {o : Obj} {v : Value} {m : Nat} {xs : List Value} (ow : wr.ownsRow base 40 2 v m xs) (G : (wr.alloc o).grownBy w' v.ownBlock) : Ws w7 w' n cw gw g3 b3 base tv := by
  obtain ⟨F, hF⟩ := h.rw
  obtain ⟨G3, hG⟩ := h.r3
  have h1 := h.lw
  have h2 := h.hb
  have a3 := h.ne3 ow
  have ab := h.neb ow
  have aw : v.ownBlock ≠ some gw := fun e => by have := (ow.lt _ e).1; omega
  refine ⟨(h.t.alloc o).trans' (S' := fun k => some k = v.ownBlock) (Touch.of_grown G) (fun k hk e => ?_), ⟨F, (hF.alloc o).grown G (fun e => aw e.symm)⟩, ⟨G3, (hG.alloc o).grown G (fun e => a3 e.symm)⟩, (h.rb.alloc o).of_block (G.block b3 (h.rb.alloc o).lt (fun e => ab e.symm)), h1, h.l3, h.lb, h.n3, h2⟩
  have := (ow.lt k e.symm).1
  omega
end Ws
end WkX
end Go.Proofs.Ytafaiikgpooflaa
