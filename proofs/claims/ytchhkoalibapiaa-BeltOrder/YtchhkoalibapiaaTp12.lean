/-
  Lemmas: RDone3.
-/
import Derived.Test.YtchhkoalibapiaaTp11
/-
  middenref03's Run.Done, where the task goes on.
-/
namespace Go.Proofs.Ytchhkoalibapiaa
open Go.RowKit
set_option linter.unusedVariables false
set_option linter.unusedSimpArgs false
set_option linter.unnecessarySimpa false
set_option maxRecDepth 20000
open Beg

variable {K : Kd} {rep : List Value → K.σ → Prop} {P : Par} {blk blk' : Rl → Nat} {c c' : Rl → Option Row} {st : St K} {un : Nat → Bool} {capw : Nat} {sv sv' : Value} {w : World} {base B : Nat} {aoh aos : Option Addr} {caph caps : Nat} {sh : Shp} {la : Int} {h : Nat} {x : Stp} {f' : Nat → Int} {cs : List Value}

theorem set2_one {L : List Value} (h : ∀ v ∈ L, v.oneCell' = true) (i j : Nat) (u v : Value) (hu : u.oneCell' = true) (hv : v.oneCell' = true) : ((L.set i u).set j v).toArray.all (·.oneCell') = true :=
  all_oneCell_toArray (fun y hy => by
    rcases List.mem_or_eq_of_mem_set hy with hy | rfl
    · rcases List.mem_or_eq_of_mem_set hy with hy | rfl
      · exact h y hy
      · exact hu
    · exact hv)

theorem Has.congrBlk {w : World} {base : Nat} {blk blk' : Rl → Nat} {c : Rl → Option Row} (h : Has w base blk c) (e : ∀ r x, c r = some x → blk' r = blk r) : Has w base blk' c :=
  ⟨fun r r' x x' h1 h2 h3 => h.inj r r' x x' h1 h2 (by rw [← e r x h1, ← e r' x' h2]; exact h3), fun r x h1 => by rw [e r x h1]; exact h.row r x h1, fun r x h1 => by rw [e r x h1]; exact h.new r x h1⟩

theorem Has.reRow {w : World} {base : Nat} {blk : Rl → Nat} {c : Rl → Option Row} {r : Rl} {t : TypeId} {n : Nat} {F F' : Nat → Value} (h : Has w base blk c) (e : c r = some ⟨t, n, F⟩) (hF : ∀ i, i < n → F i = F' i) : Has w base blk (upd c r (some ⟨t, n, F'⟩)) :=
  h.write r ⟨t, n, F'⟩ e (Touch.refl w _) ((h.row r _ e).congr hF)
theorem upd_upd {ι α : Type} [DecidableEq ι] (g : ι → α) (r : ι) (x y : α) : upd (upd g r x) r y = upd g r y := by
  funext k
  by_cases h : k = r
  · subst h; simp
  · rw [upd_other _ _ h, upd_other _ _ h, upd_other _ _ h]
/-- Two cells of a role's row written: the row's list. -/
theorem two_sets_row {w : World} {base : Nat} {blk : Rl → Nat} {c : Rl → Option Row} {r : Rl} {t : TypeId} {b : Nat} {L : List Value} (H : Has w base blk c) (e : c r = some ⟨t, 15, lrow L⟩) (hb : blk r = b) (hl : L.length = 15) (i j : Nat) (u v : Value) (hij : i ≠ j) :
    Has ((w.setCell ⟨b, i, none⟩ u).setCell ⟨b, j, none⟩ v) base blk (upd c r (some ⟨t, 15, lrow ((L.set i u).set j v)⟩)) := by
  subst hb
  have h1 := (H.set r e i u).set r (upd_same _ _ _) j v
  have h2 := h1.reRow (F' := lrow ((L.set i u).set j v)) (upd_same _ _ _) (fun q hq => by
    by_cases h2 : q = j
    · subst h2; simp [lrow, List.getElem?_set, hl, hq]
    · by_cases h3 : q = i
      · subst h3; simp [lrow, List.getElem?_set, hl, hq, h2, Ne.symm h2]
      · simp [lrow, List.getElem?_set, h2, h3, Ne.symm h2, Ne.symm h3])
  rw [upd_upd, upd_upd] at h2
  exact h2

/-- Two cells of a role's row written; what the row then is. -/
theorem two_sets {w : World} {base : Nat} {blk : Rl → Nat} {c : Rl → Option Row} {r : Rl} {t : TypeId} {b : Nat} {L : List Value} (H : Has w base blk c) (e : c r = some ⟨t, 15, lrow L⟩) (hb : blk r = b) (hl : L.length = 15) (i j : Nat) (u v : Value) (hij : i ≠ j) :
    ∃ c', Has ((w.setCell ⟨b, i, none⟩ u).setCell ⟨b, j, none⟩ v) base blk c' ∧ ((w.setCell ⟨b, i, none⟩ u).setCell ⟨b, j, none⟩ v).rangeAt b 0 ((L.set i u).set j v) ∧ (∃ y, c' r = some y) ∧ ∀ r', r' ≠ r → c' r' = c r' := by
  subst hb
  have h1 := (H.set r e i u).set r (upd_same _ _ _) j v
  refine ⟨_, h1, rangeOf h1 (upd_same _ _ _) rfl (by simp [hl]) (fun q z hz => ?_), ⟨_, upd_same _ _ _⟩, fun r' hr' => by rw [upd_other _ _ hr', upd_other _ _ hr']⟩
  have hq : q < 15 := by have := (List.getElem?_eq_some_iff.1 hz).1; simpa [hl] using this
  rw [List.getElem?_set] at hz
  by_cases h2 : q = j
  · subst h2; simp [hl, hq] at hz; simp [hz]
  · rw [if_neg (fun e => h2 e.symm), List.getElem?_set] at hz
    simp only [h2, if_false]
    by_cases h3 : q = i
    · subst h3; simp [hl, hq] at hz; simp [hz]
    · rw [if_neg (fun e => h3 e.symm)] at hz
      simp only [h3, if_false]
      exact lrow_of hz

set_option maxHeartbeats 8000000 in
theorem rdone_goes (G : RGood K rep P blk c (st.with f') un capw sv) (H : Has w base blk c) (hh : h < P.nh) (hu : un h = true) (hx : stepOf P.n st.f (K.req (st.cur h)) = x) (hf : wordsOf P.n st.f (K.req (st.cur h)) = f')
    (hend : ¬ K.ends (st.cur h) x = true) (hk : IsTk cs) (hrep : rep cs (K.next (st.cur h) x)) (hk6 : st.k < 65536) :
    Calls Try.prog 32 #[rv sh P blk capw (.slice aoh P.nh caph) sv la, .int .i64 h, .agg cs.toArray, x.val, .bool false] w fun e w' => ∃ blk' c' sv', e = .returned (rv sh P blk' capw (.slice aoh P.nh caph) sv' h) ∧ Has w' base blk' c' ∧ RGood K rep P blk' c' (stepSt P st h) un capw sv' ∧ Touch w w' (Own blk c) := by
  obtain ⟨s0, s1, s2, s3, s4, s5⟩ := sh
  obtain ⟨sa, sc, hsv⟩ := G.steps.isSlice'
  replace hsv : sv = .slice sa st.k sc := hsv
  subst hsv
  have hnh := G.hands
  obtain ⟨T, eT, hT⟩ := G.tasks
  obtain ⟨U, eU, hU⟩ := G.under
  obtain ⟨A, eA, hA⟩ := G.answers
  obtain ⟨Kf, eK, hKf⟩ := G.kept
  have hkl := hk.1
  have hlT := H.lt eT
  have hbase : base ≤ w.heap.size := Nat.le_of_lt (Nat.lt_of_le_of_lt (H.new _ _ eT) hlT)
  have LT := hide (fun r y e => H.lt (r := r) (x := y) e)
  obtain ⟨L, hL⟩ : ∃ L : List Value, L = [.int .i64 s0, .int .i64 s1, .int .i64 s2, .int .i64 s3, .int .i64 s4, .int .i64 s5, .slice (some ⟨blk .words, 0, none⟩) P.n capw, .slice aoh P.nh caph, .slice (some ⟨blk .tasks, 0, none⟩) P.nh P.nh, .slice (some ⟨blk .going, 0, none⟩) P.nh P.nh, .slice (some ⟨blk .run, 0, none⟩) P.nh P.nh, .slice (some ⟨blk .mem, 0, none⟩) P.nh P.nh, .slice sa st.k sc, .slice (some ⟨blk .answers, 0, none⟩) P.nh P.nh, .int .i64 la] := ⟨_, rfl⟩
  have hval : rv ⟨s0, s1, s2, s3, s4, s5⟩ P blk capw (.slice aoh P.nh caph) (.slice sa st.k sc) la = .agg L.toArray := by rw [hL]; rfl
  rw [hval]
  have hLl : L.length = 15 := by rw [hL]; rfl
  have l9 : L[9]? = some (.slice (some ⟨blk .going, 0, none⟩) P.nh P.nh) := by rw [hL]; rfl
  have l8 : L[8]? = some (.slice (some ⟨blk .tasks, 0, none⟩) P.nh P.nh) := by rw [hL]; rfl
  have l11 : L[11]? = some (.slice (some ⟨blk .mem, 0, none⟩) P.nh P.nh) := by rw [hL]; rfl
  have l12 : L[12]? = some (.slice sa st.k sc) := by rw [hL]; rfl
  have l13 : L[13]? = some (.slice (some ⟨blk .answers, 0, none⟩) P.nh P.nh) := by rw [hL]; rfl
  have l14 : L[14]? = some (.int .i64 la) := by rw [hL]; rfl
  have hL1 : ∀ v ∈ L, v.oneCell' = true := by rw [hL]; simp [Value.oneCell']
  obtain ⟨W4, hW4⟩ : ∃ W4, (((w.alloc (.cells L.toArray 78)).alloc (.cells cs.toArray 84)).alloc (.cells #[.int .i64 x.hand, .int .i64 x.act, .int .i64 x.at_, .int .u64 x.had, .int .u64 x.put, .bool x.ok] 57)).alloc (.cells #[.int .i64 0, .int .i64 0, .int .i64 0, .int .i64 0, .int .i64 0, .int .i64 0, .slice none 0 0, .slice none 0 0, .slice none 0 0, .slice none 0 0, .slice none 0 0, .slice none 0 0, .slice none 0 0, .slice none 0 0, .int .i64 0] 78) = W4 := ⟨_, rfl⟩
  have H4 := boxes H hbase L cs x.cells zRun 78 84 57 78
  simp only [zRun, Stp.cells] at H4
  rw [hW4] at H4
  have T4 : Touch w W4 (fun _ => False) := by rw [← hW4]; exact ((((Touch.refl w _).alloc _).alloc _).alloc _).alloc _
  have hsz : W4.heap.size = w.heap.size + 4 := by rw [← hW4]; simp
  obtain ⟨blk4, hblk4⟩ : ∃ b4, upd (upd (upd (upd blk (.task 0 0) w.heap.size) (.task 0 1) (w.heap.size + 1)) (.task 0 2) (w.heap.size + 2)) (.task 0 3) (w.heap.size + 3) = b4 := ⟨_, rfl⟩
  rw [hblk4] at H4
  have bR : blk4 (.task 0 0) = w.heap.size := by rw [← hblk4]; simp [upd]
  have bT : blk4 (.task 0 1) = w.heap.size + 1 := by rw [← hblk4]; simp [upd]
  have bS : blk4 (.task 0 2) = w.heap.size + 2 := by rw [← hblk4]; simp [upd]
  have bO : blk4 (.task 0 3) = w.heap.size + 3 := by rw [← hblk4]; simp [upd]
  have bq : ∀ r, (∀ a b, r ≠ .task a b) → blk4 r = blk r := fun r hr => by rw [← hblk4]; simp [upd, hr]
  have bTs := bq .tasks (by simp)
  have bU := bq .going (by simp)
  have bM := bq .mem (by simp)
  have bA := bq .answers (by simp)
  have bSt := bq .steps (by simp)
  obtain ⟨c4, hc4⟩ : ∃ c4, upd (upd (upd (upd (bare c) (.task 0 0) (some ⟨78, L.length, lrow L⟩)) (.task 0 1) (some ⟨84, cs.length, lrow cs⟩)) (.task 0 2) (some ⟨57, 6, lrow [.int .i64 x.hand, .int .i64 x.act, .int .i64 x.at_, .int .u64 x.had, .int .u64 x.put, .bool x.ok]⟩)) (.task 0 3) (some ⟨78, 15, lrow [.int .i64 0, .int .i64 0, .int .i64 0, .int .i64 0, .int .i64 0, .int .i64 0, .slice none 0 0, .slice none 0 0, .slice none 0 0, .slice none 0 0, .slice none 0 0, .slice none 0 0, .slice none 0 0, .slice none 0 0, .int .i64 0]⟩) = c4 := ⟨_, rfl⟩
  replace H4 : Has W4 base blk4 c4 := by rw [← hc4]; exact H4
  have eR4 : c4 (.task 0 0) = some ⟨78, L.length, lrow L⟩ := by rw [← hc4]; simp [upd]
  have eT4 : c4 (.task 0 1) = some ⟨84, cs.length, lrow cs⟩ := by rw [← hc4]; simp [upd]
  have eS4 : c4 (.task 0 2) = some ⟨57, 6, lrow [.int .i64 x.hand, .int .i64 x.act, .int .i64 x.at_, .int .u64 x.had, .int .u64 x.put, .bool x.ok]⟩ := by rw [← hc4]; simp [upd]
  have eO4 : ∃ O, c4 (.task 0 3) = some ⟨78, 15, O⟩ := ⟨_, by rw [← hc4, upd_same]⟩
  have cq : ∀ r, (∀ a b, r ≠ .task a b) → c4 r = c r := fun r hr => by
    rw [← hc4, upd_other _ _ (hr 0 3), upd_other _ _ (hr 0 2), upd_other _ _ (hr 0 1), upd_other _ _ (hr 0 0), bare_of hr]
  obtain ⟨O, eO4⟩ := eO4
  rw [hLl] at eR4
  rw [hkl] at eT4
  have eTs4 : c4 .tasks = some ⟨84, P.nh * 28, T⟩ := by rw [cq _ (by simp)]; exact eT
  have rK : W4.rangeAt (w.heap.size + 1) 0 cs := rangeOf H4 eT4 bT hkl (fun i v hv => lrow_of hv)
  have thT : W4.there (blk .tasks) (h * 28) 28 := thereOf H4 eTs4 bTs (by omega)
  have GS4 : Grows blk4 c4 .steps 57 6 st.k (stepCells st.s st.k) (.slice sa st.k sc) := by
    have := G.steps
    unfold Grows at this ⊢
    rw [bSt, cq .steps (by simp)]
    exact this
  have KEEP : Hid (∀ W5, W4.setCells (blk .tasks) (h * 28) cs.toArray.toList = W5 → Touch W4 W5 (fun k => k = blk .tasks) ∧ ∃ T', Has W5 base blk4 (upd c4 .tasks (some ⟨84, P.nh * 28, T'⟩)) ∧ (∀ i, ¬ (h * 28 ≤ i ∧ i < h * 28 + 28) → T' i = T i) ∧ (∀ i u, cs[i]? = some u → T' (h * 28 + i) = u)) := by
    intro W5 hW5
    have hW5' : W4.setCells (blk .tasks) (h * 28) cs = W5 := by simpa using hW5
    subst hW5'
    have hh5 := H4.setCells eTs4 (h * 28) cs
    rw [bTs] at hh5
    refine ⟨touch_setCells _ _ _ _, _, hh5, fun i hi => ?_, fun i u hui => ?_⟩
    · rw [if_neg (by rw [hkl]; exact hi)]
    · have hi := (List.getElem?_eq_some_iff.1 hui).1
      rw [if_pos (by omega), show h * 28 + i - h * 28 = i by omega, hui]; rfl
  have hu5 : ∀ {y r}, (r : Rl) ≠ .tasks → (upd c4 .tasks y) r = c4 r := fun hr => upd_other _ _ hr
  obtain ⟨dT, hdT1, hdT2⟩ := row79
  obtain ⟨dR, hdR1, hdR2⟩ := row90
  obtain ⟨i46s, hi46s, hj46s⟩ : ∃ i, Try.prog.info? 57 = some i ∧ (i.zero, i.size, i.bytes) = (some (Value.agg #[.int .i64 0, .int .i64 0, .int .i64 0, .int .u64 0, .int .u64 0, .bool false]), 6, 48) := Option.map_eq_some_iff.1 info48z
  simp only [Prod.mk.injEq] at hj46s
  have HI46 := hide hi46s
  have HJ46 := hide hj46s
  have DT1 := hide hdT1
  have DT2 := hide hdT2
  have DR1 := hide hdR1
  have DR2 := hide hdR2
  have KL := hide hkl
  have LL := hide hLl
  have HK := hide hk
  have HL1 := hide hL1
  have HrK := hide rK
  have HthT := hide thT
  have HH4 := hide H4
  have HT4 := hide T4
  have HGS4 := hide GS4
  have HG := hide G
  have HHL := hide hL
  have HX := hide hx
  have HF := hide hf
  have HE := hide hend
  have HBQ := hide bq
  have HCQ := hide cq
  have HHU := hide hU
  have HA := hide hA
  have HKF := hide hKf
  have c8 : W4.cell? ⟨w.heap.size, 8, none⟩ = some (.slice (some ⟨blk .tasks, 0, none⟩) P.nh P.nh) := cellOf H4 eR4 bR (by omega) (lrow_of l8)
  have hhn : (h : Int) < (P.nh : Int) := by omega
  have hh0 : (0 : Int) ≤ (h : Int) := by omega
  have HREP := hide hrep
  clear hrep
  clear G H H4 T4 GS4 rK thT hL hL1 hk hT hU hA hKf hval hdT1 hdT2 hdR1 hdR2 hkl hLl hblk4 hc4 bq cq hx hf hend hi46s hj46s
  unfold Stp.val
  go_enter Try.func32, Try.ntmps32
  go_wp2_with (first
    | (refine wpList_load_mid (by rfl) 84 (.tmp 7) (by rfl) (w.heap.size + 1) 0 (by rfl) cs dT (by exact HrK.out) (by exact DT1.out) (by exact DT2.out) (by rw [KL.out]; exact size79) ?_)
    | (refine wpList_store_mid (by rfl) 84 (.tmp 15) (.tmp 14) (by rfl) (blk .tasks) (h * 28) cs.toArray (by rfl) (by rfl) (by simpa [KL.out] using HthT.out) (by simpa [KL.out] using size79) (by exact all_oneCell_toArray HK.out.2) ?_; obtain ⟨W5, hW5⟩ : ∃ W5, W4.setCells (blk .tasks) (h * 28) cs.toArray.toList = W5 := ⟨_, rfl⟩; rw [hW5]; obtain ⟨tt5, T', H5, hT1, hT2⟩ := KEEP.out W5 hW5; clear hW5; have sz5 := tt5.size; have HT1 := hide hT1; have HT2 := hide hT2; have HTT5 := hide tt5; have HH5 := hide H5; have p12 : W5.cell? ⟨w.heap.size, 12, none⟩ = some (.slice sa st.k sc) := (cellOf H5 ((hu5 (by simp)).trans eR4) bR (by omega) (lrow_of l12)); have p0 : W5.cell? ⟨w.heap.size + 2, 0, none⟩ = some (.int .i64 x.hand) := (cellOf H5 ((hu5 (by simp)).trans eS4) bS (by omega) rfl); have p1 : W5.cell? ⟨w.heap.size + 2, 1, none⟩ = some (.int .i64 x.act) := (cellOf H5 ((hu5 (by simp)).trans eS4) bS (by omega) rfl); have p2 : W5.cell? ⟨w.heap.size + 2, 2, none⟩ = some (.int .i64 x.at_) := (cellOf H5 ((hu5 (by simp)).trans eS4) bS (by omega) rfl); have p3 : W5.cell? ⟨w.heap.size + 2, 3, none⟩ = some (.int .u64 x.had) := (cellOf H5 ((hu5 (by simp)).trans eS4) bS (by omega) rfl); have p4 : W5.cell? ⟨w.heap.size + 2, 4, none⟩ = some (.int .u64 x.put) := (cellOf H5 ((hu5 (by simp)).trans eS4) bS (by omega) rfl); have p5 : W5.cell? ⟨w.heap.size + 2, 5, none⟩ = some (.bool x.ok) := (cellOf H5 ((hu5 (by simp)).trans eS4) bS (by omega) rfl); have HGS5 := hide (HGS4.out.upd' (r' := .tasks) (by simp) (some ⟨84, P.nh * 28, T'⟩)); clear tt5 H5 hT1 hT2)
    | (at_builtin; refine wpList_append_own_at _ (by rfl) (.tmp 17) (.tmp 19) 30 (by rfl) base 57 i46s (.agg #[.int .i64 0, .int .i64 0, .int .i64 0, .int .u64 0, .int .u64 0, .bool false]) 6 48 Try.underlying30 (by exact HI46.out) (by exact HJ46.out.1) (by exact HJ46.out.2.1) (by exact HJ46.out.2.2) (by rfl) (by decide) (.slice sa st.k sc) st.k (stepCells st.s st.k) (by rfl) (by exact HGS5.out.owns (HH5.out.alloc _) (stepCells_length _ _)) ⟨W5.heap.size, 0, none⟩ 1 1 x.cells (by rfl) (by rfl) (by exact cells_new W5 #[.int .i64 x.hand, .int .i64 x.act, .int .i64 x.at_, .int .u64 x.had, .int .u64 x.put, .bool x.ok] 57) (by exact step_one x) (by unfold maxLen; omega) (by omega) (by simp; omega) ?_; intro v6 w6 hown6 hg6 _ hat6; obtain ⟨nb, F6, cp, hv6, H6, GS6, hbn, hnb⟩ := Grows.appended HGS5.out HH5.out (by omega) ((Touch.refl W5 (fun _ => False)).alloc _) hown6 hg6 hat6; subst hv6; have HH6 := hide H6; have HGS6 := hide GS6; have HNB := hide hnb; have HTT6 := hide (((Touch.refl W5 (fun k => (∃ y, c .steps = some y) ∧ blk .steps = k)).alloc (.cells #[.int .i64 x.hand, .int .i64 x.act, .int .i64 x.at_, .int .u64 x.had, .int .u64 x.put, .bool x.ok] 57)).trans' (Touch.of_grown hg6) (by intro k hk hS; rcases HGS5.out with ⟨_, e1, _⟩ | ⟨cp', F', e1, e2, _⟩; (rw [e1] at hS; simp [Value.ownBlock] at hS); (rw [e1] at hS; simp only [Value.ownBlock, Option.some.injEq] at hS; exact ⟨⟨_, ((HCQ.out .steps (by simp)).symm.trans (hu5 (by simp)).symm).trans e2⟩, by rw [← bSt]; exact hS.symm⟩))); have sz6 := hg6.size; simp only [World.size_alloc] at sz6; have q12 : w6.cell? ⟨w.heap.size, 12, none⟩ = some (.slice sa st.k sc) := (cellOf H6 ((upd_other _ _ (by simp)).trans ((hu5 (by simp)).trans eR4)) ((upd_other _ _ (by simp)).trans bR) (by omega) (lrow_of l12)); have q14 : w6.cell? ⟨w.heap.size, 14, none⟩ = some (.int .i64 la) := (cellOf H6 ((upd_other _ _ (by simp)).trans ((hu5 (by simp)).trans eR4)) ((upd_other _ _ (by simp)).trans bR) (by omega) (lrow_of l14)); have qf : ∀ i, w6.frozen? ⟨w.heap.size, i, none⟩ = false := (fun i => frozenOf H6 ((upd_other _ _ (by simp)).trans ((hu5 (by simp)).trans eR4)) ((upd_other _ _ (by simp)).trans bR) i); have q12f := qf 12; have q14f := qf 14; clear qf H6 GS6 hown6 hg6 hat6 hbn hnb; have HW6 := hide (show w6 = w6 from rfl); obtain ⟨c7, H7, e7, e7o, hc7⟩ := two_sets HH6.out ((upd_other _ _ (by simp)).trans ((hu5 (by simp)).trans eR4)) ((upd_other _ _ (by simp)).trans bR) LL.out 12 14 (.slice (some ⟨nb, 0, none⟩) (st.k + 1) cp) (.int .i64 h) (by simp); have HH7 := hide H7; have HC7 := hide hc7; have HrL := hide e7; have HthO := hide (thereOf (o := 0) (m := 15) H7 ((hc7 _ (by simp)).trans ((upd_other _ _ (by simp)).trans ((hu5 (by simp)).trans eO4))) ((upd_other _ _ (by simp)).trans bO) (by omega)); have HLL1 := hide (set2_one HL1.out 12 14 (.slice (some ⟨nb, 0, none⟩) (st.k + 1) cp) (.int .i64 h) rfl rfl); clear H7 e7 hc7 e7o)
    | (refine wpList_load_mid (by rfl) 78 (.tmp 5) (by rfl) w.heap.size 0 (by rfl) ((L.set 12 (.slice (some ⟨nb, 0, none⟩) (st.k + 1) cp)).set 14 (.int .i64 h)) dR (by exact HrL.out) (by exact DR1.out) (by exact DR2.out) (by simp only [List.length_set]; rw [LL.out]; exact size90) ?_)
    | (refine wpList_store_mid (by rfl) 78 (.tmp 10) (.tmp 48) (by rfl) (w.heap.size + 3) 0 ((L.set 12 (.slice (some ⟨nb, 0, none⟩) (st.k + 1) cp)).set 14 (.int .i64 h)).toArray (by rfl) (by rfl) (by simpa [LL.out] using HthO.out) (by simpa [LL.out] using size90) (by exact HLL1.out) ?_))
  obtain ⟨LL2, hLL2⟩ : ∃ l, (L.set 12 (.slice (some ⟨nb, 0, none⟩) (st.k + 1) cp)).set 14 (.int .i64 h) = l := ⟨_, rfl⟩
  have hl2 : LL2.length = 15 := by rw [← hLL2]; simp [LL.out]
  have hval : (Value.agg LL2.toArray) = rv ⟨s0, s1, s2, s3, s4, s5⟩ P (upd blk .steps nb) capw (.slice aoh P.nh caph) (.slice (some ⟨nb, 0, none⟩) (st.k + 1) cp) h := by
    rw [← hLL2, HHL.out]; rfl
  simp only [hLL2] at HrL HthO HLL1 ⊢
  have eO7 := (HC7.out (.task 0 3) (by simp)).trans ((upd_other _ _ (by simp)).trans ((hu5 (by simp)).trans eO4))
  have bO7 : (upd blk4 .steps nb) (.task 0 3) = w.heap.size + 3 := (upd_other _ _ (by simp)).trans bO
  have H8 := HH7.out.setCells eO7 0 LL2
  rw [bO7] at H8
  have r8 := World.rangeAt_setCells_same _ (w.heap.size + 3) 0 LL2 (by rw [hl2]; exact HthO.out)
  have tt8 := touch_setCells (w.heap.size + 3) LL2 0 ((w6.setCell ⟨w.heap.size, 12, none⟩ (.slice (some ⟨nb, 0, none⟩) (st.k + 1) cp)).setCell ⟨w.heap.size, 14, none⟩ (.int .i64 h))
  have tt7 : Touch w6 ((w6.setCell ⟨w.heap.size, 12, none⟩ (.slice (some ⟨nb, 0, none⟩) (st.k + 1) cp)).setCell ⟨w.heap.size, 14, none⟩ (.int .i64 h)) (fun k => k = w.heap.size) := Touch.setCell (S := fun k => k = w.heap.size) (Touch.setCell (S := fun k => k = w.heap.size) (Touch.refl w6 _) ⟨w.heap.size, 12, none⟩ (.inl rfl) _) ⟨w.heap.size, 14, none⟩ (.inl rfl) _
  have cc : ∀ r, r ≠ .tasks → r ≠ .steps → bare (upd c7 (.task 0 3) (some ⟨78, 15, fun i => if 0 ≤ i ∧ i < 0 + LL2.length then LL2[i - 0]?.getD default else O i⟩)) r = bare c r := fun r h1 h2 => by
    by_cases ht : ∃ a b, r = .task a b
    · obtain ⟨a, b, rfl⟩ := ht; rfl
    · have ht' : ∀ a b, r ≠ .task a b := fun a b e => ht ⟨a, b, e⟩
      rw [bare_of ht', bare_of ht', upd_other _ _ (ht' 0 3), HC7.out r (ht' 0 0), upd_other _ _ h2, hu5 h1, HCQ.out r ht']
  have hsteps : bare (upd c7 (.task 0 3) (some ⟨78, 15, fun i => if 0 ≤ i ∧ i < 0 + LL2.length then LL2[i - 0]?.getD default else O i⟩)) .steps = (upd (upd c4 .tasks (some ⟨84, P.nh * 28, T'⟩)) .steps (some ⟨57, cp * 6, F6⟩)) .steps := by
    rw [bare_of (by simp), upd_other _ _ (by simp), HC7.out _ (by simp)]
  have htasks : bare (upd c7 (.task 0 3) (some ⟨78, 15, fun i => if 0 ≤ i ∧ i < 0 + LL2.length then LL2[i - 0]?.getD default else O i⟩)) .tasks = some ⟨84, P.nh * 28, T'⟩ := by
    rw [bare_of (by simp), upd_other _ _ (by simp), HC7.out _ (by simp), upd_other _ _ (by simp), upd_same]
  refine bodyPost_ret (v := .agg LL2.toArray) ?res rfl ⟨upd blk .steps nb, _, _, by rw [hval], H8.bare.congrBlk (fun r y e => ?_), ?good, ?tch⟩
  case res => exact results_c (by rfl) (by rfl) (run_loadVar_mid _ _ 0 _ LL2 dR r8 DR1.out DR2.out (by rw [hl2]; exact size90))
  case good =>
    refine HG.out.bare.goesOn hh hu HX.out HF.out HE.out HK.out HREP.out (fun r hr => upd_other _ _ hr) cc (by rw [bare_of (by simp)]; exact eT) htasks HT1.out HT2.out ?_
    have := HGS6.out
    unfold Grows at this ⊢
    rw [upd_same] at this ⊢
    rw [hsteps]
    exact this
  case tch =>
    refine ((((HT4.out.mono (S' := Own blk c) (fun _ _ h => h.elim)).trans' HTT5.out (fun k hk h => ⟨_, _, eT, h.symm⟩)).trans' HTT6.out (fun k hk h => ?_)).trans' tt7 (fun k hk h => absurd hk (by omega))).trans' tt8 (fun k hk h => absurd hk (by omega))
    obtain ⟨⟨y, hy⟩, hk'⟩ := h
    exact ⟨_, y, hy, hk'⟩
  · by_cases ht : ∃ a b, r = .task a b
    · obtain ⟨a, b, rfl⟩ := ht; cases e
    · have ht' : ∀ a b, r ≠ .task a b := fun a b e => ht ⟨a, b, e⟩
      by_cases hs : r = .steps
      · subst hs; rw [upd_same, upd_same]
      · rw [upd_other _ _ hs, upd_other _ _ hs, HBQ.out r ht']
end Go.Proofs.Ytchhkoalibapiaa
