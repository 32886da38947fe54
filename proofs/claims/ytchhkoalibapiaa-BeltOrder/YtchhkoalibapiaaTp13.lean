/-
  Lemmas: RDone4.
-/
import Derived.Test.YtchhkoalibapiaaTp12
import Derived.Deep.Cut
/-
  middenref03's Run.Done, where the task has ended.
-/
namespace Go.Proofs.Ytchhkoalibapiaa
open Go.RowKit
set_option linter.unusedVariables false
set_option linter.unusedSimpArgs false
set_option linter.unnecessarySimpa false
set_option maxRecDepth 20000
open Beg

variable {K : Kd} {rep : List Value → K.σ → Prop} {P : Par} {blk blk' : Rl → Nat} {c c' : Rl → Option Row} {st : St K} {un : Nat → Bool} {capw : Nat} {sv sv' : Value} {w : World} {base B : Nat} {aoh aos : Option Addr} {caph caps : Nat} {sh : Shp} {la : Int} {h : Nat} {x : Stp} {f' : Nat → Int} {cs : List Value}

theorem size77 : (Try.prog.info? 82).map (·.size) = some 4 := by kernel_rfl
theorem row77 : ∃ d, Try.prog.underlying 82 = some d ∧ d.isRow = true := by
  have h : (Try.prog.underlying 82).map (fun d => d.isRow) = some true := by kernel_rfl
  exact Option.map_eq_some_iff.1 h

set_option maxHeartbeats 8000000 in
theorem rdone_ended (G : RGood K rep P blk c (st.with f') un capw sv) (H : Has w base blk c) (hh : h < P.nh) (hu : un h = true) (hx : stepOf P.n st.f (K.req (st.cur h)) = x) (hf : wordsOf P.n st.f (K.req (st.cur h)) = f')
    (hend : K.ends (st.cur h) x = true) (hk : IsTk cs) (hansw : cs[22]? = some (.bool (K.tell (K.next (st.cur h) x)).ok) ∧ cs[23]? = some (.int .u64 (K.tell (K.next (st.cur h) x)).val)) (hzero : ∀ j, j < 4 → cs[24 + j]? = some (.int .u64 0)) (hk6 : st.k < 65536) :
    Calls Try.prog 32 #[rv sh P blk capw (.slice aoh P.nh caph) sv la, .int .i64 h, .agg cs.toArray, x.val, .bool true] w fun e w' => ∃ blk' c' sv', e = .returned (rv sh P blk' capw (.slice aoh P.nh caph) sv' h) ∧ Has w' base blk' c' ∧ RGood K rep P blk' c' (stepSt P st h) (upd un h false) capw sv' ∧ Touch w w' (Own blk c) := by
  obtain ⟨s0, s1, s2, s3, s4, s5⟩ := sh
  obtain ⟨sa, sc, hsv⟩ := G.steps.isSlice'
  replace hsv : sv = .slice sa st.k sc := hsv
  subst hsv
  have hnh := G.hands
  obtain ⟨T, eT, hT⟩ := G.tasks
  obtain ⟨U, eU, hU⟩ := G.under
  obtain ⟨A, eA, hA⟩ := G.answers
  obtain ⟨Kf, eK, hKf⟩ := G.kept
  have hkl := hk.1
  have hlT := H.lt eT
  have hbase : base ≤ w.heap.size := Nat.le_of_lt (Nat.lt_of_le_of_lt (H.new _ _ eT) hlT)
  have LT := hide (fun r y e => H.lt (r := r) (x := y) e)
  obtain ⟨L, hL⟩ : ∃ L : List Value, L = [.int .i64 s0, .int .i64 s1, .int .i64 s2, .int .i64 s3, .int .i64 s4, .int .i64 s5, .slice (some ⟨blk .words, 0, none⟩) P.n capw, .slice aoh P.nh caph, .slice (some ⟨blk .tasks, 0, none⟩) P.nh P.nh, .slice (some ⟨blk .going, 0, none⟩) P.nh P.nh, .slice (some ⟨blk .run, 0, none⟩) P.nh P.nh, .slice (some ⟨blk .mem, 0, none⟩) P.nh P.nh, .slice sa st.k sc, .slice (some ⟨blk .answers, 0, none⟩) P.nh P.nh, .int .i64 la] := ⟨_, rfl⟩
  have hval : rv ⟨s0, s1, s2, s3, s4, s5⟩ P blk capw (.slice aoh P.nh caph) (.slice sa st.k sc) la = .agg L.toArray := by rw [hL]; rfl
  rw [hval]
  have hLl : L.length = 15 := by rw [hL]; rfl
  have l9 : L[9]? = some (.slice (some ⟨blk .going, 0, none⟩) P.nh P.nh) := by rw [hL]; rfl
  have l8 : L[8]? = some (.slice (some ⟨blk .tasks, 0, none⟩) P.nh P.nh) := by rw [hL]; rfl
  have l11 : L[11]? = some (.slice (some ⟨blk .mem, 0, none⟩) P.nh P.nh) := by rw [hL]; rfl
  have l12 : L[12]? = some (.slice sa st.k sc) := by rw [hL]; rfl
  have l13 : L[13]? = some (.slice (some ⟨blk .answers, 0, none⟩) P.nh P.nh) := by rw [hL]; rfl
  have l14 : L[14]? = some (.int .i64 la) := by rw [hL]; rfl
  have hL1 : ∀ v ∈ L, v.oneCell' = true := by rw [hL]; simp [Value.oneCell']
  obtain ⟨W4, hW4⟩ : ∃ W4, (((w.alloc (.cells L.toArray 78)).alloc (.cells cs.toArray 84)).alloc (.cells #[.int .i64 x.hand, .int .i64 x.act, .int .i64 x.at_, .int .u64 x.had, .int .u64 x.put, .bool x.ok] 57)).alloc (.cells #[.int .i64 0, .int .i64 0, .int .i64 0, .int .i64 0, .int .i64 0, .int .i64 0, .slice none 0 0, .slice none 0 0, .slice none 0 0, .slice none 0 0, .slice none 0 0, .slice none 0 0, .slice none 0 0, .slice none 0 0, .int .i64 0] 78) = W4 := ⟨_, rfl⟩
  have H4 := boxes H hbase L cs x.cells zRun 78 84 57 78
  simp only [zRun, Stp.cells] at H4
  rw [hW4] at H4
  have T4 : Touch w W4 (fun _ => False) := by rw [← hW4]; exact ((((Touch.refl w _).alloc _).alloc _).alloc _).alloc _
  have hsz : W4.heap.size = w.heap.size + 4 := by rw [← hW4]; simp
  obtain ⟨blk4, hblk4⟩ : ∃ b4, upd (upd (upd (upd blk (.task 0 0) w.heap.size) (.task 0 1) (w.heap.size + 1)) (.task 0 2) (w.heap.size + 2)) (.task 0 3) (w.heap.size + 3) = b4 := ⟨_, rfl⟩
  rw [hblk4] at H4
  have bR : blk4 (.task 0 0) = w.heap.size := by rw [← hblk4]; simp [upd]
  have bT : blk4 (.task 0 1) = w.heap.size + 1 := by rw [← hblk4]; simp [upd]
  have bS : blk4 (.task 0 2) = w.heap.size + 2 := by rw [← hblk4]; simp [upd]
  have bO : blk4 (.task 0 3) = w.heap.size + 3 := by rw [← hblk4]; simp [upd]
  have bq : ∀ r, (∀ a b, r ≠ .task a b) → blk4 r = blk r := fun r hr => by rw [← hblk4]; simp [upd, hr]
  have bTs := bq .tasks (by simp)
  have bU := bq .going (by simp)
  have bM := bq .mem (by simp)
  have bA := bq .answers (by simp)
  have bSt := bq .steps (by simp)
  obtain ⟨c4, hc4⟩ : ∃ c4, upd (upd (upd (upd (bare c) (.task 0 0) (some ⟨78, L.length, lrow L⟩)) (.task 0 1) (some ⟨84, cs.length, lrow cs⟩)) (.task 0 2) (some ⟨57, 6, lrow [.int .i64 x.hand, .int .i64 x.act, .int .i64 x.at_, .int .u64 x.had, .int .u64 x.put, .bool x.ok]⟩)) (.task 0 3) (some ⟨78, 15, lrow [.int .i64 0, .int .i64 0, .int .i64 0, .int .i64 0, .int .i64 0, .int .i64 0, .slice none 0 0, .slice none 0 0, .slice none 0 0, .slice none 0 0, .slice none 0 0, .slice none 0 0, .slice none 0 0, .slice none 0 0, .int .i64 0]⟩) = c4 := ⟨_, rfl⟩
  replace H4 : Has W4 base blk4 c4 := by rw [← hc4]; exact H4
  have eR4 : c4 (.task 0 0) = some ⟨78, L.length, lrow L⟩ := by rw [← hc4]; simp [upd]
  have eT4 : c4 (.task 0 1) = some ⟨84, cs.length, lrow cs⟩ := by rw [← hc4]; simp [upd]
  have eS4 : c4 (.task 0 2) = some ⟨57, 6, lrow [.int .i64 x.hand, .int .i64 x.act, .int .i64 x.at_, .int .u64 x.had, .int .u64 x.put, .bool x.ok]⟩ := by rw [← hc4]; simp [upd]
  have eO4 : ∃ O, c4 (.task 0 3) = some ⟨78, 15, O⟩ := ⟨_, by rw [← hc4, upd_same]⟩
  have cq : ∀ r, (∀ a b, r ≠ .task a b) → c4 r = c r := fun r hr => by
    rw [← hc4, upd_other _ _ (hr 0 3), upd_other _ _ (hr 0 2), upd_other _ _ (hr 0 1), upd_other _ _ (hr 0 0), bare_of hr]
  obtain ⟨O, eO4⟩ := eO4
  rw [hLl] at eR4
  rw [hkl] at eT4
  have eTs4 : c4 .tasks = some ⟨84, P.nh * 28, T⟩ := by rw [cq _ (by simp)]; exact eT
  have rK : W4.rangeAt (w.heap.size + 1) 0 cs := rangeOf H4 eT4 bT hkl (fun i v hv => lrow_of hv)
  have thT : W4.there (blk .tasks) (h * 28) 28 := thereOf H4 eTs4 bTs (by omega)
  have GS4 : Grows blk4 c4 .steps 57 6 st.k (stepCells st.s st.k) (.slice sa st.k sc) := by
    have := G.steps
    unfold Grows at this ⊢
    rw [bSt, cq .steps (by simp)]
    exact this
  have KEEP : Hid (∀ W5, W4.setCells (blk .tasks) (h * 28) cs.toArray.toList = W5 → Touch W4 W5 (fun k => k = blk .tasks) ∧ ∃ T', Has W5 base blk4 (upd c4 .tasks (some ⟨84, P.nh * 28, T'⟩)) ∧ (∀ i, ¬ (h * 28 ≤ i ∧ i < h * 28 + 28) → T' i = T i) ∧ (∀ i u, cs[i]? = some u → T' (h * 28 + i) = u)) := by
    intro W5 hW5
    have hW5' : W4.setCells (blk .tasks) (h * 28) cs = W5 := by simpa using hW5
    subst hW5'
    have hh5 := H4.setCells eTs4 (h * 28) cs
    rw [bTs] at hh5
    refine ⟨touch_setCells _ _ _ _, _, hh5, fun i hi => ?_, fun i u hui => ?_⟩
    · rw [if_neg (by rw [hkl]; exact hi)]
    · have hi := (List.getElem?_eq_some_iff.1 hui).1
      rw [if_pos (by omega), show h * 28 + i - h * 28 = i by omega, hui]; rfl
  have hu5 : ∀ {y r}, (r : Rl) ≠ .tasks → (upd c4 .tasks y) r = c4 r := fun hr => upd_other _ _ hr
  obtain ⟨dT, hdT1, hdT2⟩ := row79
  obtain ⟨dR, hdR1, hdR2⟩ := row90
  obtain ⟨i46s, hi46s, hj46s⟩ : ∃ i, Try.prog.info? 57 = some i ∧ (i.zero, i.size, i.bytes) = (some (Value.agg #[.int .i64 0, .int .i64 0, .int .i64 0, .int .u64 0, .int .u64 0, .bool false]), 6, 48) := Option.map_eq_some_iff.1 info48z
  simp only [Prod.mk.injEq] at hj46s
  have HI46 := hide hi46s
  have HJ46 := hide hj46s
  have DT1 := hide hdT1
  have DT2 := hide hdT2
  have DR1 := hide hdR1
  have DR2 := hide hdR2
  have KL := hide hkl
  have LL := hide hLl
  have HK := hide hk
  have HL1 := hide hL1
  have HrK := hide rK
  have HthT := hide thT
  have HH4 := hide H4
  have HT4 := hide T4
  have HGS4 := hide GS4
  have HG := hide G
  have HHL := hide hL
  have HX := hide hx
  have HF := hide hf
  have HE := hide hend
  have HBQ := hide bq
  have HCQ := hide cq
  have HHU := hide hU
  have HA := hide hA
  have HKF := hide hKf
  have c8 : W4.cell? ⟨w.heap.size, 8, none⟩ = some (.slice (some ⟨blk .tasks, 0, none⟩) P.nh P.nh) := cellOf H4 eR4 bR (by omega) (lrow_of l8)
  have hhn : (h : Int) < (P.nh : Int) := by omega
  have hh0 : (0 : Int) ≤ (h : Int) := by omega
  have nUN : blk .going ≠ w.heap.size := by have := H.lt eU; omega
  have nUN1 : w.heap.size + 1 ≠ blk .going := by have := H.lt eU; omega
  have nUM : blk .going ≠ blk .mem := H.ne eU eK (by simp)
  have nMN : blk .mem ≠ w.heap.size := by have := H.lt eK; omega
  have HAN := hide hansw
  have HZ := hide hzero
  clear hansw hzero
  obtain ⟨tl, htl⟩ : ∃ tl, K.tell (K.next (st.cur h) x) = tl := ⟨_, rfl⟩
  have HTL := hide htl
  rw [htl] at HAN
  have a22 := HAN.out.1
  have a23 := HAN.out.2
  obtain ⟨av, hav⟩ : ∃ av, A h = av := ⟨_, rfl⟩
  have HAV := hide hav
  have hdn := G.unLt h hh hu
  replace hdn : st.done h < P.jn h := hdn
  have hj256 := G.jobs h hh
  clear htl hav
  obtain ⟨dK, hdK1, hdK2⟩ := row77
  have DK1 := hide hdK1
  have DK2 := hide hdK2
  clear hdK1 hdK2
  clear G H H4 T4 GS4 rK thT hL hL1 hk hT hU hA hKf hval hdT1 hdT2 hdR1 hdR2 hkl hLl hblk4 hc4 bq cq hx hf hend hi46s hj46s
  unfold Stp.val
  go_enter Try.func32, Try.ntmps32
  go_wp2_with (first
    | (refine wpList_load_mid (by rfl) 84 (.tmp 7) (by rfl) (w.heap.size + 1) 0 (by rfl) cs dT (by exact HrK.out) (by exact DT1.out) (by exact DT2.out) (by rw [KL.out]; exact size79) ?_)
    | (refine wpList_store_mid (by rfl) 84 (.tmp 15) (.tmp 14) (by rfl) (blk .tasks) (h * 28) cs.toArray (by rfl) (by rfl) (by simpa [KL.out] using HthT.out) (by simpa [KL.out] using size79) (by exact all_oneCell_toArray HK.out.2) ?_; obtain ⟨W5, hW5⟩ : ∃ W5, W4.setCells (blk .tasks) (h * 28) cs.toArray.toList = W5 := ⟨_, rfl⟩; rw [hW5]; obtain ⟨tt5, T', H5, hT1, hT2⟩ := KEEP.out W5 hW5; clear hW5; have sz5 := tt5.size; have HT1 := hide hT1; have HT2 := hide hT2; have HTT5 := hide tt5; have HH5 := hide H5; have p12 : W5.cell? ⟨w.heap.size, 12, none⟩ = some (.slice sa st.k sc) := (cellOf H5 ((hu5 (by simp)).trans eR4) bR (by omega) (lrow_of l12)); have p0 : W5.cell? ⟨w.heap.size + 2, 0, none⟩ = some (.int .i64 x.hand) := (cellOf H5 ((hu5 (by simp)).trans eS4) bS (by omega) rfl); have p1 : W5.cell? ⟨w.heap.size + 2, 1, none⟩ = some (.int .i64 x.act) := (cellOf H5 ((hu5 (by simp)).trans eS4) bS (by omega) rfl); have p2 : W5.cell? ⟨w.heap.size + 2, 2, none⟩ = some (.int .i64 x.at_) := (cellOf H5 ((hu5 (by simp)).trans eS4) bS (by omega) rfl); have p3 : W5.cell? ⟨w.heap.size + 2, 3, none⟩ = some (.int .u64 x.had) := (cellOf H5 ((hu5 (by simp)).trans eS4) bS (by omega) rfl); have p4 : W5.cell? ⟨w.heap.size + 2, 4, none⟩ = some (.int .u64 x.put) := (cellOf H5 ((hu5 (by simp)).trans eS4) bS (by omega) rfl); have p5 : W5.cell? ⟨w.heap.size + 2, 5, none⟩ = some (.bool x.ok) := (cellOf H5 ((hu5 (by simp)).trans eS4) bS (by omega) rfl); have HGS5 := hide (HGS4.out.upd' (r' := .tasks) (by simp) (some ⟨84, P.nh * 28, T'⟩)); clear tt5 H5 hT1 hT2)
    | (at_builtin; refine wpList_append_own_at _ (by rfl) (.tmp 17) (.tmp 19) 30 (by rfl) base 57 i46s (.agg #[.int .i64 0, .int .i64 0, .int .i64 0, .int .u64 0, .int .u64 0, .bool false]) 6 48 Try.underlying30 (by exact HI46.out) (by exact HJ46.out.1) (by exact HJ46.out.2.1) (by exact HJ46.out.2.2) (by rfl) (by decide) (.slice sa st.k sc) st.k (stepCells st.s st.k) (by rfl) (by exact HGS5.out.owns (HH5.out.alloc _) (stepCells_length _ _)) ⟨W5.heap.size, 0, none⟩ 1 1 x.cells (by rfl) (by rfl) (by exact cells_new W5 #[.int .i64 x.hand, .int .i64 x.act, .int .i64 x.at_, .int .u64 x.had, .int .u64 x.put, .bool x.ok] 57) (by exact step_one x) (by unfold maxLen; omega) (by omega) (by simp; omega) ?_; intro v6 w6 hown6 hg6 _ hat6; obtain ⟨nb, F6, cp, hv6, H6, GS6, hbn, hnb⟩ := Grows.appended HGS5.out HH5.out (by omega) ((Touch.refl W5 (fun _ => False)).alloc _) hown6 hg6 hat6; subst hv6; have HH6 := hide H6; have HGS6 := hide GS6; have HNB := hide hnb; have HTT6 := hide (((Touch.refl W5 (fun k => (∃ y, c .steps = some y) ∧ blk .steps = k)).alloc (.cells #[.int .i64 x.hand, .int .i64 x.act, .int .i64 x.at_, .int .u64 x.had, .int .u64 x.put, .bool x.ok] 57)).trans' (Touch.of_grown hg6) (by intro k hk hS; rcases HGS5.out with ⟨_, e1, _⟩ | ⟨cp', F', e1, e2, _⟩; (rw [e1] at hS; simp [Value.ownBlock] at hS); (rw [e1] at hS; simp only [Value.ownBlock, Option.some.injEq] at hS; exact ⟨⟨_, ((HCQ.out .steps (by simp)).symm.trans (hu5 (by simp)).symm).trans e2⟩, by rw [← bSt]; exact hS.symm⟩))); have sz6 := hg6.size; simp only [World.size_alloc] at sz6; have q12 : w6.cell? ⟨w.heap.size, 12, none⟩ = some (.slice sa st.k sc) := (cellOf H6 ((upd_other _ _ (by simp)).trans ((hu5 (by simp)).trans eR4)) ((upd_other _ _ (by simp)).trans bR) (by omega) (lrow_of l12)); have q14 : w6.cell? ⟨w.heap.size, 14, none⟩ = some (.int .i64 la) := (cellOf H6 ((upd_other _ _ (by simp)).trans ((hu5 (by simp)).trans eR4)) ((upd_other _ _ (by simp)).trans bR) (by omega) (lrow_of l14)); have qf : ∀ i, w6.frozen? ⟨w.heap.size, i, none⟩ = false := (fun i => frozenOf H6 ((upd_other _ _ (by simp)).trans ((hu5 (by simp)).trans eR4)) ((upd_other _ _ (by simp)).trans bR) i); have q12f := qf 12; have q14f := qf 14; clear qf H6 GS6 hown6 hg6 hat6 hbn hnb; have HW6 := hide (show w6 = w6 from rfl); have e6 : ∀ {r}, (r : Rl) ≠ .tasks → r ≠ .steps → (upd (upd c4 .tasks (some ⟨84, P.nh * 28, T'⟩)) .steps (some ⟨57, cp * 6, F6⟩)) r = c4 r := (fun h1 h2 => (upd_other _ _ h2).trans (upd_other _ _ h1)); have b6 : ∀ {r}, (r : Rl) ≠ .steps → (upd blk4 .steps nb) r = blk4 r := (fun h1 => upd_other _ _ h1); have q9 : w6.cell? ⟨w.heap.size, 9, none⟩ = some (.slice (some ⟨blk .going, 0, none⟩) P.nh P.nh) := (cellOf HH6.out ((e6 (by simp) (by simp)).trans eR4) ((b6 (by simp)).trans bR) (by omega) (lrow_of l9)); have q11 : w6.cell? ⟨w.heap.size, 11, none⟩ = some (.slice (some ⟨blk .mem, 0, none⟩) P.nh P.nh) := (cellOf HH6.out ((e6 (by simp) (by simp)).trans eR4) ((b6 (by simp)).trans bR) (by omega) (lrow_of l11)); have qu : w6.cell? ⟨blk .going, h, none⟩ = some (U h) := (cellOf HH6.out ((e6 (by simp) (by simp)).trans ((HCQ.out _ (by simp)).trans eU)) ((b6 (by simp)).trans bU) hh rfl); have quf : w6.frozen? ⟨blk .going, h, none⟩ = false := (frozenOf HH6.out ((e6 (by simp) (by simp)).trans ((HCQ.out _ (by simp)).trans eU)) ((b6 (by simp)).trans bU) h); have HR24 := hide (show w6.rangeAt (w.heap.size + 1) 24 [.int .u64 0, .int .u64 0, .int .u64 0, .int .u64 0] from (fun j v hv => (by have hj : j < 4 := (List.getElem?_eq_some_iff.1 hv).1; have hz := HZ.out j hj; have : v = .int .u64 0 := (by match j, hj with | 0, _ | 1, _ | 2, _ | 3, _ => exact (by simpa using hv.symm)); subst this; exact cellOf HH6.out ((e6 (by simp) (by simp)).trans eT4) ((b6 (by simp)).trans bT) (by omega) (lrow_of hz)))); have HTHK := hide (thereOf (o := h * 4) (m := 4) HH6.out ((e6 (by simp) (by simp)).trans ((HCQ.out _ (by simp)).trans eK)) ((b6 (by simp)).trans bM) (by omega)); have HH7 := hide ((two_sets_row HH6.out ((e6 (by simp) (by simp)).trans eR4) ((b6 (by simp)).trans bR) LL.out 12 14 (.slice (some ⟨nb, 0, none⟩) (st.k + 1) cp) (.int .i64 h) (by simp))))
    | (refine wpList_load_mid (by rfl) 82 (.tmp 32) (by rfl) (w.heap.size + 1) 24 (by rfl) [.int .u64 0, .int .u64 0, .int .u64 0, .int .u64 0] dK (by exact rangeAt_setOther (rangeAt_setOther (rangeAt_setOther HR24.out (by simp) _) (by simp) _) nUN1 _) (by exact DK1.out) (by exact DK2.out) (by exact size77) ?_)
    | (refine wpList_store_mid (by rfl) 82 (.tmp 34) (.tmp 33) (by rfl) (blk .mem) (h * 4) #[.int .u64 0, .int .u64 0, .int .u64 0, .int .u64 0] (by rfl) (by rfl) (by exact there_setOther (there_setOther (there_setOther HTHK.out nMN _) nMN _) nUM.symm _) (by exact size77) (by simp [Value.oneCell']) ?_; obtain ⟨w9, hw9⟩ : ∃ w9, World.setCells (((w6.setCell ⟨w.heap.size, 12, none⟩ (.slice (some ⟨nb, 0, none⟩) (st.k + 1) cp)).setCell ⟨w.heap.size, 14, none⟩ (.int .i64 h)).setCell ⟨blk .going, h, none⟩ (.bool false)) (blk .mem) (h * 4) (#[Value.int .u64 0, Value.int .u64 0, Value.int .u64 0, Value.int .u64 0] : Array Value).toList = w9 := ⟨_, rfl⟩; rw [hw9]; obtain ⟨LL2, hLL2⟩ : ∃ l, (L.set 12 (.slice (some ⟨nb, 0, none⟩) (st.k + 1) cp)).set 14 (.int .i64 h) = l := ⟨_, rfl⟩; rw [hLL2] at HH7; have H8 := HH7.out.set .going (x0 := ⟨4, P.nh, U⟩) ((upd_other _ _ (by simp)).trans ((e6 (by simp) (by simp)).trans ((HCQ.out _ (by simp)).trans eU))) h (.bool false); rw [(b6 (r := .going) (by simp)).trans bU] at H8; have H9 := H8.setCells (r := .mem) (F := Kf) ((upd_other _ _ (by simp)).trans ((upd_other _ _ (by simp)).trans ((e6 (by simp) (by simp)).trans ((HCQ.out _ (by simp)).trans eK)))) (h * 4) [Value.int .u64 0, Value.int .u64 0, Value.int .u64 0, Value.int .u64 0]; rw [(b6 (r := .mem) (by simp)).trans bM] at H9; rw [show (#[Value.int .u64 0, Value.int .u64 0, Value.int .u64 0, Value.int .u64 0] : Array Value).toList = [Value.int .u64 0, Value.int .u64 0, Value.int .u64 0, Value.int .u64 0] from rfl] at hw9; rw [hw9] at H9; have tt9 : Touch w6 w9 (fun k => k = w.heap.size ∨ k = blk .going ∨ k = blk .mem) := (by rw [← hw9]; exact (Touch.setCell (S := fun k => k = w.heap.size ∨ k = blk .going ∨ k = blk .mem) (Touch.setCell (S := fun k => k = w.heap.size ∨ k = blk .going ∨ k = blk .mem) (Touch.setCell (S := fun k => k = w.heap.size ∨ k = blk .going ∨ k = blk .mem) (Touch.refl w6 _) ⟨w.heap.size, 12, none⟩ (.inl (.inl rfl)) _) ⟨w.heap.size, 14, none⟩ (.inl (.inl rfl)) _) ⟨blk .going, h, none⟩ (.inl (.inr (.inl rfl))) _).trans' (touch_setCells _ _ _ _) (fun k _ hk => .inr (.inr hk))); have HTT9 := hide tt9; have sz9 := tt9.size; have HH9 := hide H9; have HL2 := hide hLL2; clear hw9 H8 H9 tt9 hLL2 q9 q11 q12 q14 q12f q14f qu quf))
  obtain ⟨c9, H9, e9r, e9m, e9g, e9s, e9t, e9q⟩ : ∃ c9, Has w9 base (upd blk4 .steps nb) c9 ∧ c9 (.task 0 0) = some ⟨78, 15, lrow LL2⟩ ∧ (∃ Kf', c9 .mem = some ⟨82, P.nh * 4, Kf'⟩ ∧ ∀ i, i < P.nh * 4 → Kf' i = .int .u64 0) ∧ c9 .going = some ⟨4, P.nh, fun j => if j = h then .bool false else U j⟩ ∧ c9 .steps = some ⟨57, cp * 6, F6⟩ ∧ c9 .tasks = some ⟨84, P.nh * 28, T'⟩ ∧ (∀ r, r ≠ .mem → r ≠ .going → r ≠ .task 0 0 → r ≠ .tasks → r ≠ .steps → c9 r = c4 r) := by
    refine ⟨_, HH9.out, by rw [upd_other _ _ (by simp), upd_other _ _ (by simp), upd_same], ⟨_, upd_same _ _ _, fun i hi => ?_⟩, by rw [upd_other _ _ (by simp), upd_same], by rw [upd_other _ _ (by simp), upd_other _ _ (by simp), upd_other _ _ (by simp), upd_same], by rw [upd_other _ _ (by simp), upd_other _ _ (by simp), upd_other _ _ (by simp), upd_other _ _ (by simp), upd_same], fun r h1 h2 h3 h4 h5 => by rw [upd_other _ _ h1, upd_other _ _ h2, upd_other _ _ h3, upd_other _ _ h5, upd_other _ _ h4]⟩
    split
    · rename_i hq
      have : ∀ j, j < 4 → [Value.int .u64 0, Value.int .u64 0, Value.int .u64 0, Value.int .u64 0][j]?.getD default = .int .u64 0 := fun j hj => by
        match j, hj with
        | 0, _ | 1, _ | 2, _ | 3, _ => rfl
      exact this _ (by simp only [List.length_cons, List.length_nil] at hq; omega)
    · exact HKF.out i hi
  have hbR6 := (b6 (r := .task 0 0) (by simp)).trans bR
  have hbT6 := (b6 (r := .task 0 1) (by simp)).trans bT
  have hbO6 := (b6 (r := .task 0 3) (by simp)).trans bO
  have hbA6 := (b6 (r := .answers) (by simp)).trans bA
  have e9T : c9 (.task 0 1) = some ⟨84, 28, lrow cs⟩ := (e9q _ (by simp) (by simp) (by simp) (by simp) (by simp)).trans eT4
  have e9O : c9 (.task 0 3) = some ⟨78, 15, O⟩ := (e9q _ (by simp) (by simp) (by simp) (by simp) (by simp)).trans eO4
  have e9A : c9 .answers = some ⟨63, P.nh, A⟩ := (e9q _ (by simp) (by simp) (by simp) (by simp) (by simp)).trans ((HCQ.out _ (by simp)).trans eA)
  have hl2 : LL2.length = 15 := by rw [← HL2.out]; simp [LL.out]
  have l213 : LL2[13]? = some (.slice (some ⟨blk .answers, 0, none⟩) P.nh P.nh) := by rw [← HL2.out]; simp [List.getElem?_set, l13]
  have d13 : w9.cell? ⟨w.heap.size, 13, none⟩ = some (.slice (some ⟨blk .answers, 0, none⟩) P.nh P.nh) := cellOf H9 e9r hbR6 (by omega) (lrow_of l213)
  have d22 : w9.cell? ⟨w.heap.size + 1, 22, none⟩ = some (.bool tl.ok) := cellOf H9 e9T hbT6 (by omega) (lrow_of a22)
  have d23 : w9.cell? ⟨w.heap.size + 1, 23, none⟩ = some (.int .u64 tl.val) := cellOf H9 e9T hbT6 (by omega) (lrow_of a23)
  have da : w9.cell? ⟨blk .answers, h, none⟩ = some av := cellOf H9 e9A hbA6 hh HAV.out
  have daf : w9.frozen? ⟨blk .answers, h, none⟩ = false := frozenOf H9 e9A hbA6 h
  have lN9 : w.heap.size < w9.heap.size := by omega
  have lN91 : w.heap.size + 1 < w9.heap.size := by omega
  have nAN : blk .answers ≠ w.heap.size := by have := LT.out _ _ eA; omega
  have nAN1 : blk .answers ≠ w.heap.size + 1 := by have := LT.out _ _ eA; omega
  have lA9 : blk .answers < w9.heap.size := by have := H9.lt e9A; rw [hbA6] at this; exact this
  have GA9 : Grows (upd blk4 .steps nb) c9 (.arow h) 65 2 (st.done h) (ansCells (st.ans h) (st.done h)) av := by
    have := HA.out h hh
    rw [HAV.out] at this
    unfold Grows at this ⊢
    rw [e9q _ (by simp) (by simp) (by simp) (by simp) (by simp), HCQ.out _ (by simp), b6 (by simp), HBQ.out _ (by simp)]
    exact this
  have HH9' := hide H9
  have HGA9 := hide GA9
  have HE9 := hide (And.intro e9r (And.intro e9T (And.intro e9O (And.intro e9A (And.intro e9g (And.intro e9s (And.intro e9t e9q)))))))
  have HE9m := hide e9m
  clear HH9 H9 GA9 e9r e9T e9O e9A e9g e9s e9t e9q e9m l213 HH7
  go_cut [] from 35 (fun wx => ∃ nb2 F2 cp2, Has wx base (upd (upd blk4 .steps nb) (.arow h) nb2) (upd (upd c9 (.arow h) (some ⟨65, cp2 * 2, F2⟩)) .answers (some ⟨63, P.nh, fun j => if j = h then .slice (some ⟨nb2, 0, none⟩) (st.done h + 1) cp2 else A j⟩)) ∧
    Grows (upd (upd blk4 .steps nb) (.arow h) nb2) (upd c9 (.arow h) (some ⟨65, cp2 * 2, F2⟩)) (.arow h) 65 2 (st.done h + 1) (ansCells (st.ans h) (st.done h) ++ tl.cells) (.slice (some ⟨nb2, 0, none⟩) (st.done h + 1) cp2) ∧ Touch w9 wx (fun k => k = blk .answers ∨ ((∃ y, c (.arow h) = some y) ∧ blk (.arow h) = k)))
  case first =>
   go_region_law (
    refine step_append_at rfl (.tmp 42) (.tmp 45) 63 rfl base 65 _ 2 16 Try.underlying63 info54z rfl (by decide) av (st.done h) (ansCells (st.ans h) (st.done h)) (by simp [Act.eval, Act.put]) (HGA9.out.owns ((HH9'.out.alloc _).drew) (ansCells_length _ _)) ⟨w9.heap.size, 0, none⟩ 1 1 tl.cells (by simp [Act.eval, Act.put]) rfl (by intro j u hj; have := cells_new w9 #[.bool tl.ok, .int .u64 tl.val] 65 j u (by simpa [Ans.cells] using hj); simpa using this) (ans_one tl) (by unfold maxLen; omega) (by omega) (by simp; omega) ?_
    intro v' w10 hown hg hat
    obtain ⟨nb2, F2, cp2, hv', H10, G10, hbn, hnb⟩ := Grows.appended HGA9.out HH9'.out (by omega) (((Touch.refl w9 (fun _ => False)).alloc _).drew) hown hg hat
    subst hv'
    have g13 : w10.cell? ⟨w.heap.size, 13, none⟩ = some (.slice (some ⟨blk .answers, 0, none⟩) P.nh P.nh) := cellOf H10 ((upd_other _ _ (by simp)).trans HE9.out.1) ((upd_other _ _ (by simp)).trans hbR6) (by omega) (lrow_of (by rw [← HL2.out]; simp [List.getElem?_set, l13]))
    have ga : w10.cell? ⟨blk .answers, h, none⟩ = some av := cellOf H10 ((upd_other _ _ (by simp)).trans HE9.out.2.2.2.1) ((upd_other _ _ (by simp)).trans hbA6) hh HAV.out
    have gaf : w10.frozen? ⟨blk .answers, h, none⟩ = false := frozenOf H10 ((upd_other _ _ (by simp)).trans HE9.out.2.2.2.1) ((upd_other _ _ (by simp)).trans hbA6) h
    have g22 : w10.cell? ⟨w.heap.size + 1, 22, none⟩ = some (.bool tl.ok) := cellOf H10 ((upd_other _ _ (by simp)).trans HE9.out.2.1) ((upd_other _ _ (by simp)).trans hbT6) (by omega) (lrow_of a22)
    have g23 : w10.cell? ⟨w.heap.size + 1, 23, none⟩ = some (.int .u64 tl.val) := cellOf H10 ((upd_other _ _ (by simp)).trans HE9.out.2.1) ((upd_other _ _ (by simp)).trans hbT6) (by omega) (lrow_of a23)
    have HH10 := hide H10
    have HG10 := hide G10
    have HNB2 := hide hnb
    have sz10 := hg.size
    simp only [World.size_alloc, World.size_drew] at sz10
    have HTT10 := hide ((((Touch.refl w9 (fun k => (∃ y, c (.arow h) = some y) ∧ blk (.arow h) = k)).alloc (.cells #[.bool tl.ok, .int .u64 tl.val] 65)).drew).trans' (Touch.of_grown hg) (by
      intro k hk hS
      rcases HGA9.out with ⟨_, e1, _⟩ | ⟨cp', F', e1, e2, _⟩
      · rw [e1] at hS; simp [Value.ownBlock] at hS
      · rw [e1] at hS
        simp only [Value.ownBlock, Option.some.injEq] at hS
        refine ⟨⟨_, ((HCQ.out _ (by simp)).symm.trans (HE9.out.2.2.2.2.2.2.2 _ (by simp) (by simp) (by simp) (by simp) (by simp)).symm).trans e2⟩, ?_⟩
        rw [← HBQ.out _ (by simp), ← b6 (r := .arow h) (by simp)]
        exact hS.symm))
    clear H10 G10 hown hg hat hbn hnb)
   all_goals go_wp2_with fail
   all_goals go_meet
   all_goals
    case rel =>
      have H11 := HH10.out.set .answers (x0 := ⟨63, P.nh, A⟩) ((upd_other _ _ (by simp)).trans HE9.out.2.2.2.1) h (.slice (some ⟨nb2, 0, none⟩) (st.done h + 1) cp2)
      rw [(upd_other (r' := Rl.answers) (r := Rl.arow h) _ nb2 (by simp)).trans hbA6] at H11
      exact ⟨nb2, F2, cp2, H11, HG10.out, Touch.setCell (HTT10.out.mono (S' := fun k => k = blk .answers ∨ ((∃ y, c (.arow h) = some y) ∧ blk (.arow h) = k)) (fun k _ hk => .inr hk)) ⟨blk .answers, h, none⟩ (.inl (.inl rfl)) _⟩
  case rest =>
    obtain ⟨nb2, F2, cp2, H11, G11, tt11⟩ := hcut
    have HH11 := hide H11
    have HG11 := hide G11
    have HTT11 := hide tt11
    have HrL := hide (rangeOf (l := LL2) H11 ((upd_other _ _ (by simp)).trans ((upd_other _ _ (by simp)).trans HE9.out.1)) ((upd_other _ _ (by simp)).trans hbR6) hl2 (fun i v hv => lrow_of hv))
    have HthO := hide (thereOf (o := 0) (m := 15) H11 ((upd_other _ _ (by simp)).trans ((upd_other _ _ (by simp)).trans HE9.out.2.2.1)) ((upd_other _ _ (by simp)).trans hbO6) (by omega))
    have HLL1 := hide (show LL2.toArray.all (·.oneCell') = true from by rw [← HL2.out]; exact set2_one HL1.out 12 14 (.slice (some ⟨nb, 0, none⟩) (st.k + 1) cp) (.int .i64 h) rfl rfl)
    clear H11 G11 tt11
    go_wp2_with (first
      | (refine wpList_load_mid (by rfl) 78 (.tmp 5) (by rfl) w.heap.size 0 (by rfl) LL2 dR (by exact HrL.out) (by exact DR1.out) (by exact DR2.out) (by rw [hl2]; exact size90) ?_)
      | (refine wpList_store_mid (by rfl) 78 (.tmp 10) (.tmp 48) (by rfl) (w.heap.size + 3) 0 LL2.toArray (by rfl) (by rfl) (by simpa [hl2] using HthO.out) (by simpa [hl2] using size90) (by exact HLL1.out) ?_))
    have hval : (Value.agg LL2.toArray) = rv ⟨s0, s1, s2, s3, s4, s5⟩ P (upd (upd blk .steps nb) (.arow h) nb2) capw (.slice aoh P.nh caph) (.slice (some ⟨nb, 0, none⟩) (st.k + 1) cp) h := by
      rw [← HL2.out, HHL.out]; rfl
    obtain ⟨e9r, e9T, e9O, e9A, e9g, e9s, e9t, e9q⟩ := HE9.out
    obtain ⟨Kf', e9m, hKf'⟩ := HE9m.out
    have eO7 := (upd_other (r' := Rl.task 0 3) (r := Rl.answers) (upd c9 (.arow h) (some ⟨65, cp2 * 2, F2⟩)) (some ⟨63, P.nh, fun j => if j = h then .slice (some ⟨nb2, 0, none⟩) (st.done h + 1) cp2 else A j⟩) (by simp)).trans ((upd_other _ _ (by simp)).trans e9O)
    have bO7 : (upd (upd blk4 .steps nb) (.arow h) nb2) (.task 0 3) = w.heap.size + 3 := (upd_other _ _ (by simp)).trans hbO6
    have H12 := HH11.out.setCells eO7 0 LL2
    rw [bO7] at H12
    have r12 := World.rangeAt_setCells_same wc (w.heap.size + 3) 0 LL2 (by rw [hl2]; exact HthO.out)
    have tt12 := touch_setCells (w.heap.size + 3) LL2 0 wc
    obtain ⟨C, hC⟩ : ∃ C, upd (upd (upd c9 (.arow h) (some ⟨65, cp2 * 2, F2⟩)) .answers (some ⟨63, P.nh, fun j => if j = h then .slice (some ⟨nb2, 0, none⟩) (st.done h + 1) cp2 else A j⟩)) (.task 0 3) (some ⟨78, 15, fun i => if 0 ≤ i ∧ i < 0 + LL2.length then LL2[i - 0]?.getD default else O i⟩) = C := ⟨_, rfl⟩
    rw [hC] at H12
    have Cq : ∀ r, r ≠ .task 0 3 → r ≠ .answers → r ≠ .arow h → C r = c9 r := fun r h1 h2 h3 => by rw [← hC, upd_other _ _ h1, upd_other _ _ h2, upd_other _ _ h3]
    have Ca : C .answers = some ⟨63, P.nh, fun j => if j = h then .slice (some ⟨nb2, 0, none⟩) (st.done h + 1) cp2 else A j⟩ := by rw [← hC, upd_other _ _ (by simp), upd_same]
    have Cr : C (.arow h) = some ⟨65, cp2 * 2, F2⟩ := by rw [← hC, upd_other _ _ (by simp), upd_other _ _ (by simp), upd_same]
    have cc : ∀ r, r ≠ .tasks → r ≠ .steps → r ≠ .arow h → r ≠ .going → r ≠ .mem → r ≠ .answers → bare C r = bare c r := fun r h1 h2 h3 h4 h5 h6 => by
      by_cases ht : ∃ a b, r = .task a b
      · obtain ⟨a, b, rfl⟩ := ht; rfl
      · have ht' : ∀ a b, r ≠ .task a b := fun a b e => ht ⟨a, b, e⟩
        rw [bare_of ht', bare_of ht', Cq r (ht' 0 3) h6 h3, e9q r h5 h4 (ht' 0 0) h1 h2, HCQ.out r ht']
    refine bodyPost_ret (v := .agg LL2.toArray) ?res rfl ⟨upd (upd blk .steps nb) (.arow h) nb2, bare C, _, by rw [hval], H12.bare.congrBlk (fun r y e => ?_), ?good, ?tch⟩
    case res => exact results_c (by rfl) (by rfl) (run_loadVar_mid _ _ 0 _ LL2 dR r12 DR1.out DR2.out (by rw [hl2]; exact size90))
    case good =>
      refine HG.out.bare.ended hh hu HX.out HF.out HE.out (fun r h1 h2 => by rw [upd_other _ _ h2, upd_other _ _ h1]) cc (by rw [bare_of (by simp)]; exact eT) (T' := T') (by rw [bare_of (by simp), Cq _ (by simp) (by simp) (by simp)]; exact e9t) HT1.out (by rw [bare_of (by simp)]; exact eU) (by rw [bare_of (by simp), Cq _ (by simp) (by simp) (by simp)]; exact e9g) (fun i => rfl) (by rw [bare_of (by simp), Cq _ (by simp) (by simp) (by simp)]; exact e9m) hKf' (by rw [bare_of (by simp)]; exact eA) (by rw [bare_of (by simp)]; exact Ca) (fun i hi => if_neg hi) ?_ ?_
      · have := HG11.out
        rw [HTL.out]
        simp only [if_true]
        unfold Grows at this ⊢
        rw [upd_same] at this ⊢
        rw [bare_of (by simp), Cr]
        rw [upd_same] at this
        exact this
      · have := HGS6.out
        unfold Grows at this ⊢
        rw [upd_same] at this
        rw [upd_other _ _ (by simp), upd_same, bare_of (by simp), Cq _ (by simp) (by simp) (by simp), e9s]
        rw [upd_same] at this
        exact this
    case tch =>
      refine ((((((HT4.out.mono (S' := Own blk c) (fun _ _ h => h.elim)).trans' HTT5.out (fun k hk h => ⟨_, _, eT, h.symm⟩)).trans' HTT6.out (fun k hk h => ?_)).trans' HTT9.out (fun k hk h => ?_)).trans' HTT11.out (fun k hk h => ?_))).trans' tt12 (fun k hk h => absurd hk (by omega))
      · obtain ⟨⟨y, hy⟩, hk'⟩ := h
        exact ⟨_, y, hy, hk'⟩
      · rcases h with h | h | h
        · exact absurd hk (by omega)
        · exact ⟨_, _, eU, h.symm⟩
        · exact ⟨_, _, eK, h.symm⟩
      · rcases h with h | ⟨⟨y, hy⟩, hk'⟩
        · exact ⟨_, _, eA, h.symm⟩
        · exact ⟨_, y, hy, hk'⟩
    · by_cases ht : ∃ a b, r = .task a b
      · obtain ⟨a, b, rfl⟩ := ht; cases e
      · have ht' : ∀ a b, r ≠ .task a b := fun a b e => ht ⟨a, b, e⟩
        by_cases hr : r = .arow h
        · subst hr; rw [upd_same, upd_same]
        · rw [upd_other _ _ hr, upd_other _ _ hr]
          by_cases hs : r = .steps
          · subst hs; rw [upd_same, upd_same]
          · rw [upd_other _ _ hs, upd_other _ _ hs, HBQ.out r ht']
end Go.Proofs.Ytchhkoalibapiaa
