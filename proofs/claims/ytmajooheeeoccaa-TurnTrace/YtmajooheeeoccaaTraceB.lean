/-
  TurnTrace: the law's own walk.
-/
import Derived.Test.YtmajooheeeoccaaActsAll
import Derived.Test.YtmajooheeeoccaaAwake
import Derived.Test.YtmajooheeeoccaaTraceA
import Derived.Test.YtmajooheeeoccaaCopyW
import Derived.Deep.RegionHeld
namespace Go.Proofs.Ytmajooheeeoccaa
namespace OfActs
open Go.RowKit
set_option linter.unusedVariables false
set_option linter.unusedSimpArgs false
set_option maxRecDepth 100000

variable {w : World} {ao aoh aos : Option Addr} {cap caph caps : Nat} {P : Par} {f : Nat → Int} {most : Int}

theorem isRow_drew {w : World} {g n cap : Nat} {f : Nat → Int} (h : IsRow w g n cap f) : IsRow w.drew g n cap f := h.block rfl
theorem isRow_drewN {w : World} {g n cap : Nat} {f : Nat → Int} {m : Nat} (h : IsRow w g n cap f) : IsRow (w.drewN m) g n cap f := h.block rfl
theorem rowIs_drewN {w : World} {b : Nat} {t : TypeId} {n : Nat} {f : Nat → Value} {m : Nat} (h : w.rowIs b t n f) : (w.drewN m).rowIs b t n f := h
theorem touch_drewN {w w' : World} {S : Nat → Prop} {m : Nat} (h : Touch w w' S) : Touch w (w'.drewN m) S := ⟨h.os, h.tape, h.output, h.size, h.block⟩

/-- All the first q hands have ended. -/
def overOf (P : Par) (st : St kAct) (q : Nat) : Bool := decide (∀ i, i < q → st.done i = P.jn i)
theorem overOf_succ (P : Par) (st : St kAct) (q : Nat) : overOf P st (q + 1) = (overOf P st q && decide (st.done q = P.jn q)) := by
  unfold overOf
  rw [Bool.eq_iff_iff]
  simp only [decide_eq_true_eq, Bool.and_eq_true]
  constructor
  · intro h; exact ⟨fun i hi => h i (by omega), h q (by omega)⟩
  · rintro ⟨h1, h2⟩ i hi
    rcases Nat.lt_succ_iff_lt_or_eq.1 hi with h | rfl
    · exact h1 i h
    · exact h2
theorem overOf_end {P : Par} {st : St kAct} (hle : ∀ h, h < P.nh → st.done h ≤ P.jn h) : decide (cnt (st.going P) P.nh = 0) = overOf P st P.nh := by
  unfold overOf
  rw [Bool.eq_iff_iff]
  simp only [decide_eq_true_eq]
  constructor
  · intro h i hi
    have h1 := cnt_zero h i hi
    simp only [St.going, decide_eq_false_iff_not] at h1
    have := hle i hi
    omega
  · intro h
    refine cnt_none fun i hi => ?_
    simp only [St.going, decide_eq_false_iff_not]
    have := h i hi
    omega

theorem info3 : (Try.prog.info? 3).map (fun i => (i.zero.map Value.cells, i.size, i.bytes)) = some (some #[.int .i64 0], 1, 8) := by kernel_rfl

set_option maxHeartbeats 8000000 in
theorem trace_walk (S : Sees w w.heap.size ao P.n f) (hnil : ao = none → P.n = 0 ∧ cap = 0) (hf : ∀ i, i < P.n → 0 ≤ f i ∧ f i ≤ 18446744073709551615) (SH : SeesH w w.heap.size aoh P.nh P.jn P.jb) (hn63 : P.nh ≤ 9223372036854775807) (SI : SeesI w w.heap.size aos P.ns P.sched) (hjw : ∀ h, h < P.nh → ∀ j, j < P.jn h → (P.jb h j).wf) :
    Calls Try.prog 6 #[.slice ao P.n cap, .slice aoh P.nh caph, .slice aos P.ns caps, .int .i64 most] w fun e w' => e = .returned (.bool true) ∧ Below w.heap.size w w' := by
  have HS := hide S
  have HSH := hide SH
  have HSI := hide SI
  have HJW := hide hjw
  have HN := hide hnil
  have HF := hide hf
  clear S SH SI hjw hnil hf
  go_enter Try.func6, Try.ntmps6
  go_wp2_with fail
  refine (awake_any w).mono ?_
  rintro e w1 ⟨rfl, hb1⟩
  have hs1 := hb1.size
  have B1 := hide hb1
  clear hb1
  go_wp2_with fail
  have upS : Sees w1 w1.heap.size ao P.n f := (HS.out.below B1.out (Nat.le_refl _)).mono hs1
  have upH : SeesH w1 w1.heap.size aoh P.nh P.jn P.jb := fun i hi => by
    obtain ⟨b, off, ao', cap, e, hb, hc, hj⟩ := HSH.out.below B1.out (Nat.le_refl _) i hi
    exact ⟨b, off, ao', cap, e, by omega, hc, fun q hq => by obtain ⟨b', off', e', hb', hc'⟩ := hj q hq; exact ⟨b', off', e', by omega, hc'⟩⟩
  have upI : SeesI w1 w1.heap.size aos P.ns P.sched := fun i hi => by
    obtain ⟨b, off, e, hb, hc⟩ := HSI.out.below B1.out (Nat.le_refl _) i hi
    exact ⟨b, off, e, by omega, hc⟩
  refine (acts_all upS HF.out upH hn63 upI HJW.out).mono ?_
  clear upS upI
  rintro e w2 ⟨hb2, hcase⟩
  have hs2 := hb2.size
  have B2 := hide (B1.out.trans (hb2.mono hs1))
  rcases hcase with ⟨er, her, rfl⟩ | ⟨hF, hok, v, rfl, blk, c, g, sv, rfl, H, G, GS, R, hg, hne⟩
  · have he0 : ¬ er = 0 := her.ne
    unfold errVal
    clear hb2
    go_wp2_with fail
    go_ret
    exact ⟨rfl, B2.out.alloc (by omega) _⟩
  · obtain ⟨sa, sc, hsv⟩ := GS.isSlice
    subst hsv
    obtain ⟨hn4, hl, hns, hm0, hm1⟩ := hF
    obtain ⟨m, rfl⟩ : ∃ m : Nat, most = m := ⟨most.toNat, by omega⟩
    rw [Int.toNat_natCast] at *
    have hnh : P.nh ≤ 8 := G.hands
    obtain ⟨k, hk⟩ : ∃ k, (runSt P (st0 kAct P f) m).k = k := ⟨_, rfl⟩
    rw [hk]
    have hkm : k ≤ m := by rw [← hk]; exact (runSt_k P (st0 kAct P f) rfl m).1
    obtain ⟨endv, hendv⟩ : ∃ b, decide (cnt ((runSt P (st0 kAct P f) m).going P) P.nh = 0) = b := ⟨_, rfl⟩
    rw [hendv]
    have HH := hide (H.alloc (.cells #[.slice sa k sc, .slice (some ⟨g, 0, none⟩) P.n P.n, .bool endv] 28))
    have GG := hide G
    have GGS := hide GS
    have RR := hide (R.alloc (.cells #[.slice sa k sc, .slice (some ⟨g, 0, none⟩) P.n P.n, .bool endv] 28))
    have HK := hide hk
    have HE := hide hendv
    have HOK := hide hok
    have SW := hide (((HS.out.below B2.out (Nat.le_refl _)).mono (by omega) : Sees w2 w2.heap.size ao P.n f).below ((Below.refl _ w2).alloc (Nat.le_refl _) (.cells #[.slice sa k sc, .slice (some ⟨g, 0, none⟩) P.n P.n, .bool endv] 28)) (Nat.le_refl _))
    have UH := hide ((upH.below hb2 (Nat.le_refl _)).below ((Below.refl _ w2).alloc (Nat.le_refl _) (.cells #[.slice sa k sc, .slice (some ⟨g, 0, none⟩) P.n P.n, .bool endv] 28)) hs2)
    have hbaE : ∃ A, c .answers = some ⟨52, P.nh, A⟩ := by obtain ⟨A, e, _⟩ := G.answers; exact ⟨A, e⟩
    have hba2 : w.heap.size ≤ w2.heap.size := by omega
    obtain ⟨ba, hba⟩ : ∃ ba, blk .answers = ba := ⟨_, rfl⟩
    rw [hba]
    clear H G GS R hk hendv hok upH hb2 hne
    have hkm' : (k : Int) ≤ (m : Int) := by omega
    have hkm2 : ¬ (m : Int) < (k : Int) := by omega
    have hkm3 : ¬ m < k := by omega
    obtain ⟨i46, hi46, hz46, hs46, hy46⟩ := info46e
    have hmk := run_make_z (P := Try.prog) 24 3 _ 1 8 Try.underlying24 info3 P.nh (by omega) (by omega)
    simp only [Nat.mul_one] at hmk
    go_wp2_with (at_builtin; refine wpList_append_opt rfl (.tmp 53) (.tmp 54) 22 rfl (w2.heap.size + 1) 46 i46 (.int .u64 0) 1 8 Try.underlying22 hi46 hz46 hs46 hy46 rfl (by decide) (.slice (some ⟨w2.heap.size + 1, 0, none⟩) 0 0) 0 [] rfl (by have := World.ownsRow_lit (base := w2.heap.size + 1) (e := 46) (size := 1) (w2.alloc (.cells #[.slice sa k sc, .slice (some ⟨g, 0, none⟩) P.n P.n, .bool endv] 28)) #[] 0 (by simp) (by unfold maxLen; omega) rfl; simpa using this) ao P.n cap (wordCells P.n f) rfl HN.out (by simp [wordCells]) (Sees.news ((SW.out.mono (by simp)).alloc _)) (wordCells_one P.n f) (by unfold maxLen; omega) (by omega) (by simp) ?_; intro v4 w4 hown4 hgrow4 hnn; rw [Nat.zero_add, List.nil_append] at hown4; obtain ⟨gn, capn, rfl, rown, hgn⟩ := owned_row hown4 (fun e => absurd (hnn e) (by simp)) HF.out; have q0 := hgrow4.cell (a := ⟨w2.heap.size, 0, none⟩) (v := .slice sa k sc) (by simp) (by simp [Value.ownBlock]); have q1 := hgrow4.cell (a := ⟨w2.heap.size, 1, none⟩) (v := .slice (some ⟨g, 0, none⟩) P.n P.n) (by simp) (by simp [Value.ownBlock]); have q2 := hgrow4.cell (a := ⟨w2.heap.size, 2, none⟩) (v := .bool endv) (by simp) (by simp [Value.ownBlock]); have hs4 := hgrow4.size; simp only [World.size_alloc] at hs4; have lq : w2.heap.size < w4.heap.size := (by omega); have RN := hide rown; have B4 := hide ((((Below.refl (w2.heap.size + 1) (w2.alloc (.cells #[.slice sa k sc, .slice (some ⟨g, 0, none⟩) P.n P.n, .bool endv] 28))).alloc (by simp) (.cells #[] 46)).grown hgrow4 (by simp) (fun k hk => by simp [Value.ownBlock] at hk; omega))); clear hown4 hgrow4 hnn rown)
    obtain ⟨w5, hw5⟩ : ∃ w5, w4.alloc (.cells (madeCells #[.int .i64 0] P.nh) 3) = w5 := ⟨_, rfl⟩
    obtain ⟨bmd, hbmd⟩ : ∃ b, w4.heap.size = b := ⟨_, rfl⟩
    have RM0 : w5.rowIs bmd 3 P.nh (fun _ => .int .i64 0) := by rw [← hw5, ← hbmd]; exact World.rowIs_made w4 _ P.nh 3
    have RN0 : IsRow w5 gn P.n capn f := by rw [← hw5]; exact RN.out.alloc _
    have hs5 : w5.heap.size = w4.heap.size + 1 := by rw [← hw5]; simp
    have lgn := RN.out.lt
    have OLD : Hid (∀ wr, Touch w5 wr (fun k => k = gn ∨ k = bmd) → ∀ (a : Addr) (v : Value), (w2.alloc (.cells #[.slice sa k sc, .slice (some ⟨g, 0, none⟩) P.n P.n, .bool endv] 28)).cell? a = some v → wr.cell? a = some v) := by
      intro wr T a v hc
      have hl := World.block_lt_of_cell? _ _ hc
      simp only [World.size_alloc] at hl
      have e1 := B4.out.block a.block hl
      have e2 : w5.heap[a.block]? = w4.heap[a.block]? := by rw [← hw5]; exact Below.heap_alloc _ _ _ (by omega)
      have e3 := T.block a.block (by omega) (by rintro (h | h) <;> omega)
      rw [World.cell?_of_block (e3.trans (e2.trans e1))]
      exact hc
    rw [hw5, hbmd]
    have HRM := hide RM0
    have HRN := hide RN0
    have hbm2 : w2.heap.size + 1 ≤ bmd := by omega
    have hgb : gn < bmd := by omega
    have hs6 : w5.heap.size = bmd + 1 := by omega
    have B5 := hide (show Below w.heap.size w4 w5 by rw [← hw5]; exact (Below.refl _ w4).alloc (by omega) _)
    clear RM0 RN0 hmk hw5 hs5 hs4 lq lgn hbmd
    go_loopw [14] (fun i wr => ∃ j : Nat, i = .int .i64 j ∧ j ≤ k ∧ IsRow wr gn P.n capn (runSt P (st0 kAct P f) j).f ∧ wr.rowIs bmd 3 P.nh (fun h => .int .i64 ((runSt P (st0 kAct P f) j).done h)) ∧ Touch w5 wr (fun k => k = gn ∨ k = bmd)) (fun i _ => k - (intOf i).toNat)
    case atStart => exact ⟨0, rfl, Nat.zero_le _, HRN.out, HRM.out, Touch.refl _ _⟩
    case round =>
      obtain ⟨j, rfl, hj, RNj, RMj, TT⟩ := hrel
      have HRNj := hide RNj
      have HRMj := hide RMj
      have HTT := hide TT
      have t0 := OLD.out wr TT ⟨w2.heap.size, 0, none⟩ (.slice sa k sc) (by simp)
      have hsr := TT.size
      clear RNj RMj TT q0 q1 q2
      by_cases hjk : j < k
      · have hjk' : (j : Int) < (k : Int) := by omega
        obtain ⟨h, d, x, FX⟩ := stepFact (f := f) HOK.out m j (by rw [HK.out]; exact hjk)
        have GS' := GGS.out
        rw [HK.out] at GS'
        obtain ⟨bs, scap, esv, hbs, _, hcs⟩ := grows_cell GS' HH.out (stepCells_length _ _) (by omega)
        obtain ⟨rfl, _, rfl⟩ : sa = some ⟨bs, 0, none⟩ ∧ k = k ∧ sc = scap := by injection esv with a b c; exact ⟨a, b, c⟩
        have xc : ∀ q, q < 6 → wr.cell? ⟨bs, j * 6 + q, none⟩ = some (x.cell q) := fun q hq => OLD.out wr HTT.out _ _ (by have := hcs _ _ (stepCells_get (runSt P (st0 kAct P f) m).s k j q hjk hq); rw [FX.xs] at this; exact this)
        have p0 := xc 0 (by omega)
        have p1 := xc 1 (by omega)
        have p2 := xc 2 (by omega)
        have p3 := xc 3 (by omega)
        have p4 := xc 4 (by omega)
        have p5 := xc 5 (by omega)
        simp only [Stp.cell, Nat.add_zero, FX.hand, FX.act, FX.at_] at p0 p1 p2 p3 p4 p5
        obtain ⟨hb', hoff, ao', hcap', rfl, hbl', hcell, hsj⟩ := UH.out h FX.hh
        have hc1 := OLD.out wr HTT.out _ _ hcell
        obtain ⟨jb', joff, rfl, hjbl, hjc⟩ := hsj d FX.dl
        have jc : ∀ q, q < 5 → wr.cell? ⟨jb', joff + d * 5 + q, none⟩ = some ((P.jb h d).cell q) := fun q hq => OLD.out wr HTT.out _ _ (hjc q hq)
        have j0 := jc 0 (by omega)
        have j1 := jc 1 (by omega)
        have j2 := jc 2 (by omega)
        have j3 := jc 3 (by omega)
        have j4 := jc 4 (by omega)
        simp only [Jb.cell, Nat.add_zero] at j0 j1 j2 j3 j4
        obtain ⟨A, eA, hA⟩ := GG.out.answers
        have hAh := hA h FX.hh
        have ah := HH.out.cell eA (i := h) FX.hh
        rw [hba] at ah
        obtain ⟨bh, acap, eAh, _, _, hac⟩ := grows_cell hAh HH.out (ansCells_length _ _) (by have := FX.told; omega)
        simp only [eAh] at ah
        have ah1 := OLD.out wr HTT.out _ _ ah
        have a0 := OLD.out wr HTT.out _ _ (hac _ _ (ansCells_get _ _ d 0 FX.told (by omega)))
        have a1 := OLD.out wr HTT.out _ _ (hac _ _ (ansCells_get _ _ d 1 FX.told (by omega)))
        simp only [Ans.cell, FX.ansOk, FX.ansVal, Nat.add_zero] at a0 a1
        have md := HRMj.out.cell (i := h) FX.hh
        have mf := HRMj.out.frozen h
        simp only [FX.hd] at md
        have lmd := HRMj.out.lt
        have htold : (d : Int) < ((runSt P (st0 kAct P f) m).done h : Int) := by have := FX.told; omega
        obtain ⟨D, hD⟩ : ∃ D, (runSt P (st0 kAct P f) m).done h = D := ⟨_, rfl⟩
        rw [hD] at ah1 htold
        have hhn : (h : Int) < (P.nh : Int) := by have := FX.hh; omega
        have hdj : (d : Int) < (P.jn h : Int) := by have := FX.dl; omega
        have HFX := hide FX
        obtain ⟨kk, hkk⟩ : ∃ kk, (P.jb h d).kind = kk := ⟨_, rfl⟩
        obtain ⟨aa, haa⟩ : ∃ aa, (P.jb h d).a = aa := ⟨_, rfl⟩
        obtain ⟨bb, hbb⟩ : ∃ bb, (P.jb h d).b = bb := ⟨_, rfl⟩
        obtain ⟨cc, hcc⟩ : ∃ cc, (P.jb h d).c = cc := ⟨_, rfl⟩
        obtain ⟨hv, hhv⟩ : ∃ hv, (P.jb h d).h = hv := ⟨_, rfl⟩
        rw [hkk] at p1 j0
        rw [haa] at p2 j1
        rw [hbb] at j2
        rw [hcc] at j3
        rw [hhv] at j4
        obtain ⟨had, hhad⟩ : ∃ y, x.had = y := ⟨_, rfl⟩
        obtain ⟨put, hput⟩ : ∃ y, x.put = y := ⟨_, rfl⟩
        obtain ⟨ok, hok'⟩ : ∃ y, x.ok = y := ⟨_, rfl⟩
        rw [hhad] at p3 a1
        rw [hput] at p4
        rw [hok'] at p5 a0
        have HL1 := hide (And.intro hkk (And.intro haa (And.intro hhad (And.intro hput hok'))))
        clear FX xc jc hcs hac hjc hcell ah eAh hAh GS' hkk haa hbb hcc hhv hhad hput hok' hD
        have g1 : ¬ (h : Int) < 0 := by omega
        have g2 : ¬ (P.nh : Int) ≤ (h : Int) := by omega
        have g3 : ¬ P.nh ≤ h := by omega
        have g4 : h < P.nh := by omega
        have g5 : ¬ (P.jn h : Int) ≤ (d : Int) := by omega
        have g6 : ¬ P.jn h ≤ d := by omega
        have g7 : ¬ (D : Int) ≤ (d : Int) := by omega
        have g8 : ¬ D ≤ d := by omega
        have lr1 : bmd < wr.heap.size := lmd
        have lr2 : hb' < wr.heap.size := World.block_lt_of_cell? _ _ hc1
        have lr3 : jb' < wr.heap.size := World.block_lt_of_cell? _ _ j0
        have lr4 : ba < wr.heap.size := World.block_lt_of_cell? _ _ ah1
        have lr5 : bh < wr.heap.size := World.block_lt_of_cell? _ _ a0
        have lr6 : w2.heap.size < wr.heap.size := by omega
        have l7 : bmd < wr.heap.size + 1 := by omega
        have l8 : gn < wr.heap.size := HRNj.out.lt
        have l9 : gn < wr.heap.size + 1 := by omega
        as_aux_lemma =>
        go_wp2_with fail
        go_quiet (fail)
        go_wp2_with fail
        go_region_held (fun w' => w'.cell? ⟨wr.heap.size, 0, none⟩ = some (.int .i64 h) ∧ w'.cell? ⟨hb', hoff + h, none⟩ = some (.slice (some ⟨jb', joff, none⟩) (P.jn h) hcap') ∧ w'.cell? ⟨bmd, h, none⟩ = some (.int .i64 d) ∧ w'.cell? ⟨jb', joff + d * 5, none⟩ = some (.int .i64 kk) ∧ w'.cell? ⟨jb', joff + d * 5 + 1, none⟩ = some (.int .i64 aa) ∧ w'.cell? ⟨jb', joff + d * 5 + 2, none⟩ = some (.int .i64 bb) ∧ w'.cell? ⟨jb', joff + d * 5 + 3, none⟩ = some (.int .i64 cc) ∧ w'.cell? ⟨jb', joff + d * 5 + 4, none⟩ = some (.int .u64 hv)) (go_keep) (fail)
        go_wp2_with fail
        go_quiet (fail)
        obtain ⟨hkk, haa, hhad, hput, hok'⟩ := HL1.out
        have hd256 : d < 256 := by have := GG.out.jobs h HFX.out.hh; have := HFX.out.dl; omega
        have hd2 : (d : Int) < 256 := by omega
        have hgb1 : gn ≠ bmd := by omega
        have hgb2 : bmd ≠ gn := by omega
        have hgb3 : gn ≠ (⟨bmd, h, none⟩ : Addr).block := hgb1
        have eat : x.at_ = aa := by rw [HFX.out.at_, haa]
        have eact : x.act = kk := by rw [HFX.out.act, hkk]
        have DONE : ∀ i, i < P.nh → (fun h' : Nat => if h' = h then Value.int .i64 ((d : Int) + 1) else Value.int .i64 ((runSt P (st0 kAct P f) j).done h')) i = Value.int .i64 ((runSt P (st0 kAct P f) (j + 1)).done i) := by
          intro i _
          simp only []
          rw [HFX.out.done']
          by_cases e : i = h
          · subst e; rw [if_pos rfl, upd_same]; simp
          · rw [if_neg e, upd_other _ _ e]
        have HDONE := hide DONE
        clear DONE
        by_cases hin : 0 ≤ aa ∧ aa < (P.n : Int)
        · obtain ⟨an, rfl⟩ : ∃ an : Nat, aa = an := ⟨aa.toNat, by omega⟩
          obtain ⟨i1, i2⟩ := HFX.out.inside (by rw [eat]; exact hin)
          rw [eat, hhad, Int.toNat_natCast] at i1
          rw [eat, hput, Int.toNat_natCast] at i2
          have han : an < P.n := by omega
          have nc := HRNj.out.cell han
          have nf := HRNj.out.frozen an
          have hpw := HRNj.out.word han
          rw [← i1] at nc
          have hin1 : (an : Int) < (P.n : Int) := by omega
          have HI2 := hide i2
          have hpb : 0 ≤ put ∧ put ≤ 18446744073709551615 := by
            have := HFX.out.putB (by rw [eat]; exact hin) (by rw [eat, Int.toNat_natCast]; exact hpw) (HJW.out h HFX.out.hh d HFX.out.dl)
            rwa [hput] at this
          cases ok with
          | true =>
            as_aux_lemma =>
            go_wp2_with fail
            go_roundw
            case rel =>
              refine ⟨j + 1, by go_num, by omega, ?_, ?_, ?_⟩
              · rw [HI2.out]
                repeat (first | (with_reducible apply IsRow.alloc) | (with_reducible apply isRow_drew) | (with_reducible apply isRow_drewN) | (with_reducible refine IsRow.set ?_ an _ hpb) | (with_reducible refine IsRow.setOther (a := ⟨bmd, h, none⟩) ?_ hgb3 _))
                with_reducible exact HRNj.out
              · refine World.rowIs.congr ?_ HDONE.out
                repeat (first | (with_reducible apply World.rowIs.alloc) | (with_reducible apply World.rowIs.drew) | (with_reducible apply rowIs_drewN) | (with_reducible refine World.rowIs.setOther (a := ⟨gn, an, none⟩) ?_ hgb2 _) | (with_reducible refine World.rowIs.set ?_ h _))
                with_reducible exact HRMj.out
              · repeat (first | (with_reducible apply Touch.alloc) | (with_reducible apply Touch.drew) | (with_reducible apply touch_drewN) | (with_reducible refine Touch.setCell ?_ _ ?side _; case side => simp))
                with_reducible exact HTT.out
            case measure => simp [intOf]; omega
          | false =>
            obtain ⟨z1, z2⟩ := HFX.out.notOk (by rw [hok'])
            rw [eact] at z1
            rw [hput, hhad] at z2
            subst z1 z2
            subst i1
            as_aux_lemma =>
            go_wp2_with fail
            go_roundw
            case rel =>
              refine ⟨j + 1, by go_num, by omega, ?_, ?_, ?_⟩
              · rw [HI2.out]
                repeat (first | (with_reducible apply IsRow.alloc) | (with_reducible apply isRow_drew) | (with_reducible apply isRow_drewN) | (with_reducible refine IsRow.set ?_ an _ hpb) | (with_reducible refine IsRow.setOther (a := ⟨bmd, h, none⟩) ?_ hgb3 _))
                with_reducible exact HRNj.out
              · refine World.rowIs.congr ?_ HDONE.out
                repeat (first | (with_reducible apply World.rowIs.alloc) | (with_reducible apply World.rowIs.drew) | (with_reducible apply rowIs_drewN) | (with_reducible refine World.rowIs.setOther (a := ⟨gn, an, none⟩) ?_ hgb2 _) | (with_reducible refine World.rowIs.set ?_ h _))
                with_reducible exact HRMj.out
              · repeat (first | (with_reducible apply Touch.alloc) | (with_reducible apply Touch.drew) | (with_reducible apply touch_drewN) | (with_reducible refine Touch.setCell ?_ _ ?side _; case side => simp))
                with_reducible exact HTT.out
            case measure => simp [intOf]; omega
        · have hlohi : aa < 0 ∨ (0 ≤ aa ∧ ¬ aa < 0 ∧ (P.n : Int) ≤ aa ∧ ¬ aa < (P.n : Int)) := by omega
          obtain ⟨o1, o2, o3⟩ := HFX.out.outside (by rw [eat]; exact hin)
          rw [hhad] at o1
          rw [hput] at o2
          subst o1 o2
          have HI2 := hide o3
          have hok5 : ok = true ∨ (ok = false ∧ kk = 5) := by
            cases ok with
            | true => exact .inl rfl
            | false => exact .inr ⟨rfl, by have := (HFX.out.notOk (by rw [hok'])).1; rw [eact] at this; exact this⟩
          rcases hlohi with hlo | ⟨hl1, hl2, hl3, hl4⟩
          all_goals rcases hok5 with rfl | ⟨rfl, rfl⟩
          all_goals
            as_aux_lemma =>
            go_wp2_with fail
            go_roundw
            case rel =>
              refine ⟨j + 1, by go_num, by omega, ?_, ?_, ?_⟩
              · rw [HI2.out]
                repeat (first | (with_reducible apply IsRow.alloc) | (with_reducible apply isRow_drew) | (with_reducible apply isRow_drewN) | (with_reducible refine IsRow.setOther (a := ⟨bmd, h, none⟩) ?_ hgb3 _))
                with_reducible exact HRNj.out
              · refine World.rowIs.congr ?_ HDONE.out
                repeat (first | (with_reducible apply World.rowIs.alloc) | (with_reducible apply World.rowIs.drew) | (with_reducible apply rowIs_drewN) | (with_reducible refine World.rowIs.set ?_ h _))
                with_reducible exact HRMj.out
              · repeat (first | (with_reducible apply Touch.alloc) | (with_reducible apply Touch.drew) | (with_reducible apply touch_drewN) | (with_reducible refine Touch.setCell ?_ _ ?side _; case side => simp))
                with_reducible exact HTT.out
            case measure => simp [intOf]; omega
      · obtain rfl : j = k := by omega
        have hRk : runSt P (st0 kAct P f) j = runSt P (st0 kAct P f) m := by have := run_at_k P (st0 kAct P f) rfl m; rw [HK.out] at this; exact this
        have q1 := OLD.out wr HTT.out ⟨w2.heap.size, 1, none⟩ (.slice (some ⟨g, 0, none⟩) P.n P.n) (by simp)
        have q2 := OLD.out wr HTT.out ⟨w2.heap.size, 2, none⟩ (.bool endv) (by simp)
        have eov := overOf_end (P := P) (st := runSt P (st0 kAct P f) m) GG.out.doneLe
        have RG := hide (show Sees wr wr.heap.size (some ⟨g, 0, none⟩) P.n (runSt P (st0 kAct P f) m).f from fun i hi => ⟨g, 0, rfl, by have := RR.out.lt; simp at this; omega, by have := OLD.out wr HTT.out _ _ (RR.out.cell hi); simpa using this⟩)
        have BF := hide ((B2.out.alloc (by omega) (.cells #[.slice sa j sc, .slice (some ⟨g, 0, none⟩) P.n P.n, .bool endv] 28)).trans ((B4.out.mono (by omega)).trans (B5.out.trans (HTT.out.below (fun k hk => by rcases hk with rfl | rfl <;> omega) (by omega)))))
        rw [hRk] at HRNj HRMj
        have HRk := hide hRk
        clear hRk
        have HRG := hide HRNj.out.sees
        have HEOV := hide (HE.out.symm.trans eov)
        have ovc : ∀ q, overOf P (runSt P (st0 kAct P f) m) q = true ∨ overOf P (runSt P (st0 kAct P f) m) q = false := fun q => by cases overOf P (runSt P (st0 kAct P f) m) q <;> simp
        have HFULL := hide (fun h => run_full P f m h)
        clear eov
        as_aux_lemma =>
        go_wp2_with fail
        go_loopw [18, 19] (fun ov i wr2 => ∃ q mm : Nat, q ≤ P.nh ∧ i = .int .i64 q ∧ ov = .bool (overOf P (runSt P (st0 kAct P f) m) q) ∧ wr2 = wr.drewN mm) (fun _ i _ => P.nh - (intOf i).toNat)
        case atStart => exact ⟨0, 0, Nat.zero_le _, rfl, by simp [overOf], rfl⟩
        case round =>
          obtain ⟨q, mm, hq, rfl, rfl, rfl⟩ := hrel
          by_cases hlt : q < P.nh
          · have hqn : (q : Int) < (P.nh : Int) := by omega
            have md := HRMj.out.cell (i := q) hlt
            obtain ⟨D, hD⟩ : ∃ D, (runSt P (st0 kAct P f) m).done q = D := ⟨_, rfl⟩
            simp only [hD] at md
            obtain ⟨hb', hoff, ao', hcap', rfl, hbl', hcell, _⟩ := UH.out q hlt
            have hc1 := OLD.out wr HTT.out _ _ hcell
            obtain ⟨A, eA, hA⟩ := GG.out.answers
            obtain ⟨aoq, aq, eAq⟩ := (hA q hlt).isSlice
            have ah := HH.out.cell eA (i := q) hlt
            rw [hba] at ah
            simp only [eAq, hD] at ah
            have ah1 := OLD.out wr HTT.out _ _ ah
            have osucc := overOf_succ P (runSt P (st0 kAct P f) m) q
            rw [hD] at osucc
            have HOS := hide osucc
            clear osucc hcell ah hA eAq
            rcases ovc q with hov | hov
            · rw [hov]
              by_cases heq : D = P.jn q
              · subst heq
                as_aux_lemma =>
                go_wp2_with fail
                go_quiet (fail)
                go_wp2_with fail
                go_quiet (fail)
                go_wp2_with fail
                go_roundw
                case rel => exact ⟨q + 1, _, by omega, by go_num, by rw [HOS.out, hov]; simp, rfl⟩
                case measure => simp [intOf]; omega
              · have heq' : ¬ (D : Int) = (P.jn q : Int) := by omega
                as_aux_lemma =>
                go_wp2_with fail
                go_quiet (fail)
                go_wp2_with fail
                go_quiet (fail)
                go_wp2_with fail
                go_roundw
                case rel => exact ⟨q + 1, _, by omega, by go_num, by rw [HOS.out, hov]; (simp [heq]; omega), rfl⟩
                case measure => simp [intOf]; omega
            · rw [hov]
              as_aux_lemma =>
              go_wp2_with fail
              go_quiet (fail)
              go_wp2_with fail
              go_quiet (fail)
              go_wp2_with fail
              go_roundw
              case rel => exact ⟨q + 1, _, by omega, by go_num, by rw [HOS.out, hov]; simp, rfl⟩
              case measure => simp [intOf]; omega
          · obtain rfl : q = P.nh := by omega
            rcases ovc P.nh with hov | hov
            · rw [hov]
              have hev := HEOV.out.trans hov
              subst hev
              as_aux_lemma =>
              go_wp2_with (go_at_call 19; refine (same_words (RG.out.below (below_drewN (Below.refl _ wr) _) (Nat.le_refl _)) (HRG.out.below (below_drewN (Below.refl _ wr) _) (Nat.le_refl _)) (fun _ _ => rfl) (by omega)).mono ?_; rintro e w9 ⟨rfl, m9, rfl⟩)
              go_ret
              exact ⟨rfl, below_drewN BF.out _⟩
            · rw [hov]
              have hev := HEOV.out.trans hov
              have hjm : j = m := by
                have := HFULL.out (by have h1 := HE.out; rw [hev] at h1; simpa using h1)
                rw [HK.out] at this
                exact this
              subst hev
              subst hjm
              as_aux_lemma =>
              go_wp2_with (go_at_call 19; refine (same_words (RG.out.below (below_drewN (Below.refl _ wr) _) (Nat.le_refl _)) (HRG.out.below (below_drewN (Below.refl _ wr) _) (Nat.le_refl _)) (fun _ _ => rfl) (by omega)).mono ?_; rintro e w9 ⟨rfl, m9, rfl⟩)
              go_ret
              exact ⟨rfl, below_drewN BF.out _⟩
end OfActs
end Go.Proofs.Ytmajooheeeoccaa
