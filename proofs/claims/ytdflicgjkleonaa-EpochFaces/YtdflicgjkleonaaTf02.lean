/-
  Lemmas: EpochFO.
-/
import Derived.Test.YtdflicgjkleonaaTp33
import Derived.Test.YtdflicgjkleonaaTf01
import Derived.Deep.RegionHeld
set_option linter.unusedVariables false
set_option linter.unusedSimpArgs false
set_option linter.unnecessarySimpa false
set_option maxRecDepth 20000
namespace Go.Proofs.Ytdflicgjkleonaa
open Go.RowKit
namespace Epoch

theorem words_load1 (n : Nat) (f : Nat → Int) (hand at_ : Int) : wordsOf n f ⟨hand, 1, at_, 0, 0, true⟩ = f := by
  funext i
  unfold wordsOf
  split
  · rename_i hc
    have : (stepOf n f ⟨hand, 1, at_, 0, 0, true⟩).put = f at_.toNat := by
      simp only at hc
      simp [stepOf, hc, putBy, actOf]
    rw [this]
    unfold putF
    split
    · rename_i e; rw [e]
    · rfl
  · rfl

/-- How far a task driven alone is. -/
def Alone (room : Int) (k : Nat) (s : EpS) (F : Nat → Int) : Prop :=
  (s.j.kind = 1 ∧ ((k = 0 ∧ s.st = 0) ∨ (k = 1 ∧ s.st = 1))) ∨ (s.j.kind = 2 ∧ k = 0) ∨ (s.j.kind = 3 ∧ ((k = 0 ∧ s.st = 0) ∨ (k = 1 ∧ s.st = 1))) ∨
  (s.j.kind = 4 ∧ ((s.st = 0 ∧ k = 0) ∨ (s.st = 1 ∧ (k : Int) = 1 + s.nx) ∨ (s.st = 2 ∧ k ≤ 9) ∨ (s.st = 3 ∧ k ≤ 10) ∨ (s.st = 4 ∧ (k : Int) ≤ 11 + 2 * s.nx) ∨ (s.st = 5 ∧ (k : Int) ≤ 12 + 2 * s.nx)))

theorem Alone.next {room : Int} {k n : Nat} {s : EpS} {F : Nat → Int} (H : Wf room s) (hF : ∀ i, i < n → 0 ≤ F i ∧ F i ≤ 18446744073709551615) (h : Alone room k s F) (hr : 1 ≤ room ∧ room ≤ 64) (he : ¬ eends room s (stepOf n F (ereq s)) = true) :
    Alone room (k + 1) (enext room s (stepOf n F (ereq s))) (wordsOf n F (ereq s)) ∧ k + 1 < 300 ∧ Wf room (enext room s (stepOf n F (ereq s))) := by
  have HN := enext_wf hr H (had_bounds hF _) he
  obtain ⟨x, hx⟩ : ∃ x, stepOf n F (ereq s) = x := ⟨_, rfl⟩
  rw [hx] at he HN ⊢
  have hn := H.nx
  have hn1 := H.nx1
  have hn4 := H.nx4
  have ej := enext_j room s x
  refine ⟨?_, ?_, HN⟩
  · unfold Alone
    rw [ej]
    rcases h with ⟨hk, hc⟩ | ⟨hk, hc⟩ | ⟨hk, hc⟩ | ⟨hk, hc⟩
    · rcases hc with ⟨rfl, h0⟩ | ⟨rfl, h0⟩
      · exact .inl ⟨hk, .inr ⟨rfl, by simp [enext, hk, h0]⟩⟩
      · exact absurd (by simp [eends, hk, h0]) he
    · exact absurd (by simp [eends, hk]) he
    · rcases hc with ⟨rfl, h0⟩ | ⟨rfl, h0⟩
      · exact .inr (.inr (.inl ⟨hk, .inr ⟨rfl, by simp [enext, hk, h0]⟩⟩))
      · exact absurd (by simp [eends, hk, h0]) he
    · refine .inr (.inr (.inr ⟨hk, ?_⟩))
      rcases hc with ⟨h0, rfl⟩ | ⟨h0, hc⟩ | ⟨h0, hc⟩ | ⟨h0, hc⟩ | ⟨h0, hc⟩ | ⟨h0, hc⟩
      · have e : enext room s x = { s with e := x.had, nx := 0, st := 1 } := by simp [enext, hk, h0]
        rw [e]
        exact .inr (.inl ⟨rfl, by simp⟩)
      · have b1 := hn1 h0
        obtain ⟨v, hv, hv2⟩ : ∃ v : Int, (if bars x.had s.e then 3 else if s.nx + 1 = 8 then 2 else 1) = v ∧ (v = 3 ∨ v = 2 ∨ v = 1) := ⟨_, rfl, by
          split
          · exact .inl rfl
          · split
            · exact .inr (.inl rfl)
            · exact .inr (.inr rfl)⟩
        have e : enext room s x = { s with nx := s.nx + 1, st := v } := by rw [← hv]; simp [enext, hk, h0]
        rw [e]
        dsimp only
        omega
      · have e : enext room s x = { s with st := 3 } := by simp [enext, hk, h0]
        rw [e]
        dsimp only
        omega
      · have e : enext room s x = { s with f := x.had, nx := 0, st := 4 } := by simp [enext, hk, h0]
        rw [e]
        dsimp only
        omega
      · by_cases d : due x.had s.f
        · have e : (enext room s x).st = 5 ∧ (enext room s x).nx = s.nx := by simp [enext, hk, h0, d]
          omega
        · have e : (enext room s x).st = 4 ∧ (enext room s x).nx = s.nx + 1 := by simp [enext, hk, h0, d]
          omega
      · have e : (enext room s x).st = 4 ∧ (enext room s x).nx = s.nx + 1 := by simp [enext, hk, h0]
        omega
  · rcases h with ⟨hk, hc⟩ | ⟨hk, hc⟩ | ⟨hk, hc⟩ | ⟨hk, hc⟩ <;> omega

theorem Alone.init (room hand : Int) {j : Jb} (hk : j.kind = 1 ∨ j.kind = 2 ∨ j.kind = 3 ∨ j.kind = 4) : Alone room 0 (einit hand j) (fun _ => 0) := by
  rcases hk with h | h | h | h
  · exact .inl ⟨h, .inl ⟨rfl, rfl⟩⟩
  · exact .inr (.inl ⟨h, rfl⟩)
  · exact .inr (.inr (.inl ⟨h, .inl ⟨rfl, rfl⟩⟩))
  · exact .inr (.inr (.inr ⟨h, .inl ⟨rfl, rfl⟩⟩))

set_option maxHeartbeats 16000000 in
theorem faces_ok {w : World} {sh : Shp} {hand : Int} {j : Jb} {want : Nat} (h1 : 1 ≤ sh.f) (h2 : sh.f ≤ 64) (hwant : (want : Int) = 9 + sh.f) (hjw : j.wf) (he : eerr sh.f hand j = 0) {cs0 : List Value} (hcs : IsTk cs0) (hrep0 : repE sh cs0 (einit hand j))
    (HST : ∀ w : World, Calls Try.prog 20 #[sh.val, .int .i64 hand, j.val, kept0] w fun e w' => e = .returned (.tuple #[.agg cs0.toArray, .int .i64 0]) ∧ Below w.heap.size w w')
    (HTK : ∀ w : World, Calls Try.prog 19 #[sh.val, .int .i64 hand, j.val] w fun e w' => ∃ b, e = .returned (.tuple #[.iface ((kEpoch sh.f).tid j) (.pointer (some ⟨b, 0, none⟩)), .int .i64 0]) ∧ w'.rowIs b ((kEpoch sh.f).t j) ((kEpoch sh.f).n j) (ecell sh.f (einit hand j)) ∧ w.heap.size ≤ b ∧ w.grownBy w' none) :
    Calls Try.prog 4 #[sh.val, .int .i64 hand, j.val] w fun e w' => e = .returned (.bool true) ∧ Below w.heap.size w w' := by
  have fin : (kEpoch sh.f).fine j := ⟨hjw, hand, he⟩
  have hms := (isKind (r := sh.f) ⟨h1, h2⟩).mstep j fin
  have hma := (isKind (r := sh.f) ⟨h1, h2⟩).mans j fin
  have hcs' := (isKind (r := sh.f) ⟨h1, h2⟩).cstep j fin
  have hca := (isKind (r := sh.f) ⟨h1, h2⟩).cans j fin
  have KSTEP := hide (show ∀ (w : World) (b bm bw n : Nat) (f : Nat → Int) (s : EpS), (s.j = j ∧ Wf sh.f s) → w.rowIs b ((kEpoch sh.f).t j) ((kEpoch sh.f).n j) (ecell sh.f s) → IsMem w bm bw n f → b ≠ bm → b ≠ bw →
    Calls Try.prog ((kEpoch sh.f).fs j) #[.pointer (some ⟨b, 0, none⟩), .pointer (some ⟨bm, 0, none⟩)] w fun e w' => e = .returned (.tuple #[(stepOf n f (ereq s)).val, .int .i64 (if eends sh.f s (stepOf n f (ereq s)) = true then 1 else 0)]) ∧
      w'.rowIs b ((kEpoch sh.f).t j) ((kEpoch sh.f).n j) (ecell sh.f (enext sh.f s (stepOf n f (ereq s)))) ∧ IsMem w' bm bw n (wordsOf n f (ereq s)) ∧ Touch w w' (fun k => k = b ∨ k = bw) from fun w b bm bw n f s hj h hm g1 g2 => step_any ⟨h1, h2⟩ hj h hm g1 g2)
  have KANS := hide (show ∀ (w : World) (b : Nat) (s : EpS), s.j = j → w.rowIs b ((kEpoch sh.f).t j) ((kEpoch sh.f).n j) (ecell sh.f s) → Calls Try.prog ((kEpoch sh.f).fa j) #[.pointer (some ⟨b, 0, none⟩)] w fun e w' => e = .returned s.told.value ∧ w.grownBy w' none from fun w b s hj h => ans_any fin hj h)
  have RSTEP := hide (rkind h1 h2).step
  have ALONE := hide (fun (k : Nat) (s : EpS) (F : Nat → Int) (hj : s.j = j ∧ Wf sh.f s) (hF : ∀ i, i < want → 0 ≤ F i ∧ F i ≤ 18446744073709551615) (h : Alone sh.f k s F) => h.next (n := want) hj.2 hF ⟨h1, h2⟩)
  have AL0 : Hid (Alone sh.f 0 (einit hand j) (fun _ => 0)) := Alone.init sh.f hand (by have := (fine_cases fin).1; omega)
  have JW0 : Hid ((einit hand j).j = j ∧ Wf sh.f (einit hand j)) := ⟨rfl, wf_init h1 hand fin⟩
  have KSP := hide (fun w : World => size_ok w sh h1 h2)
  have KSR := hide (fun w : World => rsize_ok w sh h1 h2)
  have KFP := hide (fun w : World => fresh_ok w sh h1 h2 hwant)
  have KFR := hide (fun w : World => rfresh_ok w sh h1 h2 hwant)
  rw [← hwant] at KSP KSR
  have KST := hide HST
  have KTK := hide HTK
  have KCS := hide hcs
  have HREP0 := hide hrep0
  have hw : want ≤ 128 := by omega
  obtain ⟨tid, htid⟩ : ∃ t, (kEpoch sh.f).tid j = t := ⟨_, rfl⟩
  obtain ⟨tt, htt⟩ : ∃ t, (kEpoch sh.f).t j = t := ⟨_, rfl⟩
  obtain ⟨tn, htn⟩ : ∃ t, (kEpoch sh.f).n j = t := ⟨_, rfl⟩
  obtain ⟨fs, hfs⟩ : ∃ t, (kEpoch sh.f).fs j = t := ⟨_, rfl⟩
  obtain ⟨fa, hfa⟩ : ∃ t, (kEpoch sh.f).fa j = t := ⟨_, rfl⟩
  rw [htid, hfs] at hms
  rw [htid, hfa] at hma
  rw [hfs] at hcs'
  rw [hfa] at hca
  rw [htt, htn, hfs] at KSTEP
  rw [htt, htn, hfa] at KANS
  rw [htid, htt, htn] at KTK
  have hi := iface_nil tid
  obtain ⟨TC, hTC⟩ : ∃ TC, ecell sh.f = TC := ⟨_, rfl⟩
  rw [hTC] at KSTEP KANS KTK
  obtain ⟨RP, hRP⟩ : ∃ RP, repE sh = RP := ⟨_, rfl⟩
  rw [hRP] at RSTEP HREP0
  replace RSTEP : Hid (∀ (cs : List Value) (s : EpS), IsTk cs → RP cs s → ∀ (n : Nat) (f : Nat → Int), (∀ i, i < n → 0 ≤ f i ∧ f i ≤ 18446744073709551615) → ∃ cs', IsTk cs' ∧ (¬ eends sh.f s (stepOf n f (ereq s)) = true → RP cs' (enext sh.f s (stepOf n f (ereq s)))) ∧
    (eends sh.f s (stepOf n f (ereq s)) = true → cs'[22]? = some (.bool (enext sh.f s (stepOf n f (ereq s))).told.ok) ∧ cs'[23]? = some (.int .u64 (enext sh.f s (stepOf n f (ereq s))).told.val)) ∧ (∀ q, q < 4 → cs'[24 + q]? = some (.int .u64 0)) ∧
    ∀ (w : World) (g cap : Nat), IsRow w g n cap f → Calls Try.prog 22 #[.agg cs.toArray, .slice (some ⟨g, 0, none⟩) n cap] w fun e w' => e = .returned (.tuple #[.agg cs'.toArray, (stepOf n f (ereq s)).val, .bool (eends sh.f s (stepOf n f (ereq s)))]) ∧ IsRow w' g n cap (wordsOf n f (ereq s)) ∧ w.grownBy w' (some g)) := RSTEP
  obtain ⟨TE, hTE⟩ : ∃ TE, eends sh.f = TE := ⟨_, rfl⟩
  obtain ⟨TX, hTX⟩ : ∃ TX, enext sh.f = TX := ⟨_, rfl⟩
  obtain ⟨TR, hTR⟩ : ∃ TR : EpS → Stp, ereq = TR := ⟨_, rfl⟩
  obtain ⟨ALN, hALN⟩ : ∃ ALN, Alone sh.f = ALN := ⟨_, rfl⟩
  have TXJ := hide (fun (s : EpS) (x : Stp) (hj : s.j = j) => (show (enext sh.f s x).j = j from (enext_j sh.f s x).trans hj))
  obtain ⟨WFr, hWFr⟩ : ∃ WFr, Wf sh.f = WFr := ⟨_, rfl⟩
  rw [hWFr] at KSTEP ALONE JW0
  rw [hTE, hTX, hTR] at KSTEP RSTEP
  rw [hALN, hTE, hTX, hTR] at ALONE
  rw [hALN] at AL0
  rw [hTX] at TXJ
  clear hWFr hTC hRP hTE hTX hTR hALN htid htt htn hfs hfa HST HTK hcs hrep0 hwant he
  obtain ⟨s0, s1, s2, s3, s4, s5⟩ := sh
  obtain ⟨jo, hjo⟩ : ∃ jo, j = jo := ⟨_, rfl⟩
  rw [hjo] at KSTEP KANS ALONE AL0 JW0 TXJ HREP0 KTK KST
  have HJO := hide hjo
  rw [← hjo] at KST KTK
  obtain ⟨kind, a, b, c, hh⟩ := j
  simp only [Shp.val, Jb.val, kept0] at KSP KSR KFP KFR KST KTK ⊢
  clear hjo fin hjw
  obtain ⟨W0, hW0⟩ : ∃ W0, (w.alloc (.cells #[.int .i64 s0, .int .i64 s1, .int .i64 s2, .int .i64 s3, .int .i64 s4, .int .i64 s5] 23)).alloc (.cells #[.int .i64 kind, .int .i64 a, .int .i64 b, .int .i64 c, .int .u64 hh] 44) = W0 := ⟨_, rfl⟩
  have b0 : Below w.heap.size w W0 := by rw [← hW0]; exact ((Below.refl _ w).alloc (Nat.le_refl _) _).alloc (by simp) _
  have sz0 : W0.heap.size = w.heap.size + 2 := by rw [← hW0]; simp
  have R0 : W0.rowIs w.heap.size 23 6 (lrow [.int .i64 s0, .int .i64 s1, .int .i64 s2, .int .i64 s3, .int .i64 s4, .int .i64 s5]) := by rw [← hW0]; exact (rowL_alloc w [.int .i64 s0, .int .i64 s1, .int .i64 s2, .int .i64 s3, .int .i64 s4, .int .i64 s5] _ rfl).alloc _
  have R1 : W0.rowIs (w.heap.size + 1) 44 5 (lrow [.int .i64 kind, .int .i64 a, .int .i64 b, .int .i64 c, .int .u64 hh]) := by
    rw [← hW0]
    have := rowL_alloc (w.alloc (.cells #[.int .i64 s0, .int .i64 s1, .int .i64 s2, .int .i64 s3, .int .i64 s4, .int .i64 s5] 23)) [.int .i64 kind, .int .i64 a, .int .i64 b, .int .i64 c, .int .u64 hh] 44 (n := 5) rfl
    rwa [World.size_alloc] at this
  have keep : Hid (∀ w' : World, Below W0.heap.size W0 w' → Below w.heap.size w w' ∧ (w.heap.size + 1 < w'.heap.size) ∧ (w'.cell? ⟨w.heap.size, 0, none⟩ = some (.int .i64 s0) ∧ w'.cell? ⟨w.heap.size, 1, none⟩ = some (.int .i64 s1) ∧ w'.cell? ⟨w.heap.size, 2, none⟩ = some (.int .i64 s2) ∧ w'.cell? ⟨w.heap.size, 3, none⟩ = some (.int .i64 s3) ∧ w'.cell? ⟨w.heap.size, 4, none⟩ = some (.int .i64 s4) ∧ w'.cell? ⟨w.heap.size, 5, none⟩ = some (.int .i64 s5)) ∧
      w'.cell? ⟨w.heap.size + 1, 0, none⟩ = some (.int .i64 kind) ∧ w'.cell? ⟨w.heap.size + 1, 1, none⟩ = some (.int .i64 a) ∧ w'.cell? ⟨w.heap.size + 1, 2, none⟩ = some (.int .i64 b) ∧ w'.cell? ⟨w.heap.size + 1, 3, none⟩ = some (.int .i64 c) ∧ w'.cell? ⟨w.heap.size + 1, 4, none⟩ = some (.int .u64 hh)) := fun w' hb => by
    have r := R0.of_block (hb.block w.heap.size R0.lt)
    have r' := R1.of_block (hb.block (w.heap.size + 1) R1.lt)
    exact ⟨b0.trans (hb.mono b0.size), r'.lt, ⟨r.cell (i := 0) (by decide), r.cell (i := 1) (by decide), r.cell (i := 2) (by decide), r.cell (i := 3) (by decide), r.cell (i := 4) (by decide), r.cell (i := 5) (by decide)⟩, r'.cell (i := 0) (by decide), r'.cell (i := 1) (by decide), r'.cell (i := 2) (by decide), r'.cell (i := 3) (by decide), r'.cell (i := 4) (by decide)⟩
  clear b0 R0 R1
  go_enter Try.func4, Try.ntmps4
  go_wp2_with fail
  refine (alive_any W0).mono ?_
  rintro e w1 ⟨rfl, hb1⟩
  have HB1 := hide hb1
  obtain ⟨_, l1, ⟨c0, c1, c2, c3, c4, c5⟩, _⟩ := keep.out w1 hb1
  clear hb1 hW0
  go_wp2_with fail
  refine (KSP.out w1).mono ?_
  rintro e w2 ⟨rfl, hg⟩
  have HB2 := hide (HB1.out.trans (below_of_grown_none hg W0.heap.size HB1.out.size))
  clear hg c0 c1 c2 c3 c4 c5
  obtain ⟨_, l2, ⟨c0, c1, c2, c3, c4, c5⟩, _⟩ := keep.out w2 HB2.out
  go_wp2_with fail
  refine (KSR.out w2).mono ?_
  rintro e w3 ⟨rfl, hg⟩
  have HB3 := hide (HB2.out.trans (below_of_grown_none hg W0.heap.size HB2.out.size))
  clear hg c0 c1 c2 c3 c4 c5
  obtain ⟨_, l3, ⟨c0, c1, c2, c3, c4, c5⟩, _⟩ := keep.out w3 HB3.out
  go_wp2_with fail
  refine (KFP.out w3).mono ?_
  rintro e w4 ⟨g, rfl, R4, hg4, hg⟩
  have HB4 := hide (HB3.out.trans (below_of_grown_none hg W0.heap.size HB3.out.size))
  have HR4 := hide R4
  clear hg R4 c0 c1 c2 c3 c4 c5
  obtain ⟨_, l4, ⟨c0, c1, c2, c3, c4, c5⟩, _⟩ := keep.out w4 HB4.out
  go_wp2_with fail
  refine (KFR.out w4).mono ?_
  rintro e w5 ⟨gv, rfl, R5, hg5, hg⟩
  have HB5 := hide (HB4.out.trans (below_of_grown_none hg W0.heap.size HB4.out.size))
  have HR45 := hide (HR4.out.block ((below_of_grown_none hg w4.heap.size (Nat.le_refl _)).block g HR4.out.lt))
  have HR5 := hide R5
  have lgv := R5.lt
  have lg4 := HR4.out.lt
  clear hg R5 c0 c1 c2 c3 c4 c5
  go_wp2_with fail
  refine (same_words HR45.out.sees HR5.out.sees (fun i hi => rfl) (by omega)).mono ?_
  rintro e w6 ⟨rfl, m6, hw6⟩
  have HB6 := hide (show Below W0.heap.size W0 w6 from by rw [hw6]; exact below_drewN HB5.out m6)
  have HR6 := hide (show IsRow w6 g want want (fun _ => 0) from by rw [hw6]; exact HR45.out)
  have HV6 := hide (show IsRow w6 gv want want (fun _ => 0) from by rw [hw6]; exact HR5.out)
  have s6 : w6.heap.size = w5.heap.size := by rw [hw6]; rfl
  clear hw6
  obtain ⟨_, l6, ⟨c0, c1, c2, c3, c4, c5⟩, d0, d1, d2, d3, d4⟩ := keep.out w6 HB6.out
  go_wp2_with fail
  refine (KTK.out w6).mono ?_
  rintro e w7 ⟨bt, rfl, rt7, hbt, hg⟩
  have B67 := below_of_grown_none hg w6.heap.size (Nat.le_refl _)
  have HB7 := hide (HB6.out.trans (B67.mono HB6.out.size))
  have HR7 := hide (HR6.out.block (B67.block g HR6.out.lt))
  have HV7 := hide (HV6.out.block (B67.block gv HV6.out.lt))
  have HT7 := hide rt7
  have lt7 := rt7.lt
  clear hg rt7 B67 c0 c1 c2 c3 c4 c5 d0 d1 d2 d3 d4
  obtain ⟨_, l7, ⟨c0, c1, c2, c3, c4, c5⟩, d0, d1, d2, d3, d4⟩ := keep.out w7 HB7.out
  go_wp2_with fail
  refine (KST.out w7).mono ?_
  rintro e w8 ⟨rfl, hb⟩
  have HB8 := hide (HB7.out.trans (hb.mono HB7.out.size))
  have HR8 := hide (HR7.out.block (hb.block g HR7.out.lt))
  have HV8 := hide (HV7.out.block (hb.block gv HV7.out.lt))
  have HT8 := hide (HT7.out.of_block (hb.block bt lt7))
  have lw8 := hb.size
  clear hb c0 c1 c2 c3 c4 c5 d0 d1 d2 d3 d4
  obtain ⟨W9, hW9⟩ : ∃ W9, w8.alloc (.cells tk0.toArray 64) = W9 := ⟨_, rfl⟩
  have r9 : W9.rowIs w8.heap.size 64 28 (lrow tk0) := by rw [← hW9]; exact rowL_alloc w8 tk0 _ rfl
  have B9 : Below w8.heap.size w8 W9 := by rw [← hW9]; exact (Below.refl _ w8).alloc (Nat.le_refl _) _
  have sz9 : W9.heap.size = w8.heap.size + 1 := by rw [← hW9]; simp
  obtain ⟨W10, hW10⟩ : ∃ W10, W9.setCells w8.heap.size 0 cs0 = W10 := ⟨_, rfl⟩
  have T10 : Touch W9 W10 (fun k => k = w8.heap.size) := by rw [← hW10]; exact touch_setCells w8.heap.size cs0 0 W9
  have r10 : W10.rowIs w8.heap.size 64 28 (lrow cs0) := by
    rw [← hW10]
    exact (rowIs.setCells _ 0 _ _ r9).congr (fun i hi => by rw [if_pos (by rw [KCS.out.1]; omega)]; rfl)
  have B10 : Below w8.heap.size w8 W10 := B9.trans (T10.below (fun k hk => by omega) B9.size)
  have HB10 := hide (HB8.out.trans (B10.mono HB8.out.size))
  have HR10 := hide (HR8.out.block (B10.block g HR8.out.lt))
  have HV10 := hide (HV8.out.block (B10.block gv HV8.out.lt))
  have HT10 := hide (HT8.out.of_block (B10.block bt HT8.out.lt))
  have HU10 := hide r10
  have sz10 := T10.size
  have TH9 := hide (rowIs.there r9 (o := 0) (m := 28) (by omega))
  have HW10 := hide hW10
  clear B9 B10 r9 r10 T10 hW10
  simp only [tk0] at hW9
  go_wp2_with (first
    | (refine wpList_store_mid (by rfl) 64 (.tmp 17) (.tmp 81) (by rfl) w8.heap.size 0 cs0.toArray (by rfl) (by rfl) (by simpa [KCS.out.1] using TH9.out) (by simpa [KCS.out.1] using size79) (by exact all_oneCell_toArray KCS.out.2) ?_; rw [List.toList_toArray, HW10.out]; clear hW9)
    | (go_at_call 21; refine (new_mem HR10.out.sees HR10.out.2.2.2 (by omega)).mono ?_; rintro e w11 ⟨bm, bw, rfl, hm11, hb11, hbm, hbw⟩))
  have HB11 := hide (HB10.out.trans (hb11.mono HB10.out.size))
  have HV11 := hide (HV10.out.block (hb11.block gv HV10.out.lt))
  have HT11 := hide (HT10.out.of_block (hb11.block bt HT10.out.lt))
  have HU11 := hide (HU10.out.of_block (hb11.block w8.heap.size HU10.out.lt))
  have HM11 := hide hm11
  have hmw := hm11.ne
  obtain ⟨bu, hbu⟩ : ∃ bu, w8.heap.size = bu := ⟨_, rfl⟩
  rw [hbu] at HU11 ⊢
  have n1 : gv < bt := by omega
  have n2 : bt < bu := by omega
  have n3 : bu < bm := by omega
  have n4 : bu < bw := by omega
  have n0 : w.heap.size ≤ gv := by omega
  clear hb11 hm11 HR4 HR45 HR5 HR6 HV6 HR7 HV7 HT7 HR8 HV8 HT8 HR10 HV10 HT10 HU10 TH9 HW10 HB1 HB2 HB3 HB4 HB5 HB6 HB7 HB8 HB10
  have FINB := hide (fun (w' : World) (hb : Below W0.heap.size W0 w') => (keep.out w' hb).1)
  have hsz0 : W0.heap.size ≤ gv := by omega
  clear keep hbu sz9 sz10 lw8 lt7 hbt s6 lgv lg4 hg4 hg5 l1 l2 l3 l4 l6 l7 hbm hbw
  go_loopw [21] (fun i wr => ∃ (k : Nat) (s : EpS) (F : Nat → Int) (cs : List Value), k < 300 ∧ i = .int .i64 (k : Nat) ∧ wr.rowIs bt tt tn (TC s) ∧ IsMem wr bm bw want F ∧ IsRow wr gv want want F ∧ wr.rowIs bu 64 28 (lrow cs) ∧ IsTk cs ∧ RP cs s ∧ (s.j = jo ∧ WFr s) ∧ ALN k s F ∧ Below W0.heap.size W0 wr) (fun i _ => 300 - (intOf i).toNat)
  case atStart => exact ⟨0, einit hand jo, _, cs0, by omega, rfl, (by have := HT11.out; rw [HJO.out] at this; exact this), HM11.out, HV11.out, HU11.out, KCS.out, HREP0.out, JW0.out, AL0.out, HB11.out⟩
  case round =>
    obtain ⟨k, s, F, cs, hk, rfl, rt, mm, rv, ru, itk, rp, hj, al, bel⟩ := hrel
    have hk' : (k : Int) < 300 := by omega
    obtain ⟨cs', q1, q2, q3, _, q5⟩ := RSTEP.out cs s itk rp want F rv.2.2.2
    have AL := hide (ALONE.out k s F hj rv.2.2.2 al)
    obtain ⟨x, hx⟩ : ∃ x, stepOf want F (TR s) = x := ⟨_, rfl⟩
    obtain ⟨F', hF'⟩ : ∃ F', wordsOf want F (TR s) = F' := ⟨_, rfl⟩
    have ks := KSTEP.out wr bt bm bw want F s hj rt mm (by omega) (by omega)
    rw [hx, hF'] at ks q5 AL
    rw [hx] at q2 q3
    obtain ⟨en, hen⟩ : ∃ en, TE s x = en := ⟨_, rfl⟩
    obtain ⟨s', hs'⟩ : ∃ s', TX s x = s' := ⟨_, rfl⟩
    have hj' : s'.j = jo := by rw [← hs']; exact TXJ.out _ _ hj.1
    rw [hen, hs'] at ks q2 q3 AL
    rw [hen] at q5
    obtain ⟨v, hv⟩ : ∃ v : Int, (if en = true then (1 : Int) else 0) = v := ⟨_, rfl⟩
    rw [hv] at ks
    have HV := hide hv
    have KS := hide ks
    have Q1 := hide q1
    have Q2 := hide q2
    have Q3 := hide q3
    have Q5 := hide q5
    have HRT := hide rt
    have HRV := hide rv
    have HRU := hide ru
    have HMM := hide mm
    have HITK := hide itk
    have HBEL := hide bel
    have lrv := rv.lt
    have lru := ru.lt
    have lrt := rt.lt
    have lrb := mm.row.lt
    obtain ⟨dT, hdT⟩ := row79
    have DT := hide hdT
    clear rt mm rv ru itk rp al bel ks q1 q2 q3 q5 hx hF' hs' hv hdT hen
    go_wp2_with fail
    refine KS.out.mono ?_
    rintro e w1 ⟨rfl, rt1, mm1, tch⟩
    simp only [Stp.val]
    have s1 := tch.size
    have BE1 := hide (HBEL.out.trans (tch.below (fun k hk => by rcases hk with rfl | rfl <;> omega) HBEL.out.size))
    have HRT1 := hide rt1
    have HMM1 := hide mm1
    have HRV1 := hide (HRV.out.block (tch.block gv lrv (by omega)))
    have HRU1 := hide (HRU.out.of_block (tch.block bu lru (by omega)))
    clear rt1 mm1 tch hms hcs'
    have c1 : (en = true ∧ v = 1) ∨ (en = false ∧ v = 0) := by have := HV.out; cases en <;> simp at this <;> simp [this]
    clear HV
    rcases c1 with ⟨rfl, rfl⟩ | ⟨rfl, rfl⟩
    · skip
      obtain ⟨W2, hW2⟩ : ∃ W2, w1.alloc (.cells #[.int .i64 x.hand, .int .i64 x.act, .int .i64 x.at_, .int .u64 x.had, .int .u64 x.put, .bool x.ok] 71) = W2 := ⟨_, rfl⟩
      have B2 : Below w1.heap.size w1 W2 := by rw [← hW2]; exact (Below.refl _ w1).alloc (Nat.le_refl _) _
      have sz2 : W2.heap.size = w1.heap.size + 1 := by rw [← hW2]; simp
      have r22 : W2.rowIs w1.heap.size 71 6 (lrow [Value.int .i64 x.hand, .int .i64 x.act, .int .i64 x.at_, .int .u64 x.had, .int .u64 x.put, .bool x.ok]) := by rw [← hW2]; exact rowL_alloc w1 [Value.int .i64 x.hand, .int .i64 x.act, .int .i64 x.at_, .int .u64 x.had, .int .u64 x.put, .bool x.ok] _ rfl
      have HBE2 := hide (BE1.out.trans (B2.mono BE1.out.size))
      have HRT2 := hide (HRT1.out.of_block (B2.block bt HRT1.out.lt))
      have HMM2 := hide (HMM1.out.below B2)
      have HRV2 := hide (HRV1.out.block (B2.block gv HRV1.out.lt))
      have HRU2 := hide (HRU1.out.of_block (B2.block bu HRU1.out.lt))
      have HS2 := hide r22
      have l22 := r22.lt
      clear B2 r22
      go_wp2_with (refine wpList_load_mid (by rfl) 64 (.tmp 17) (by rfl) bu 0 (by rfl) cs dT (by exact rowIs.range HRU2.out HITK.out.1) (by exact DT.out.1) (by exact DT.out.2) (by rw [HITK.out.1]; exact size79) ?_)
      refine (Q5.out W2 gv want HRV2.out).mono ?_
      rintro e w3 ⟨rfl, rv3, hg3⟩
      simp only [Stp.val]
      have s3 := hg3.size
      have HBE3 := hide (HBE2.out.trans (grown_below hg3 HBE2.out.size (by omega)))
      have HRT3 := hide (HRT2.out.of_block (hg3.block bt HRT2.out.lt (by simp only [ne_eq, Option.some.injEq]; omega)))
      have HMM3 := hide (HMM2.out.grown hg3 (by simp only [ne_eq, Option.some.injEq]; omega) (by simp only [ne_eq, Option.some.injEq]; omega))
      have HRU3 := hide (HRU2.out.of_block (hg3.block bu HRU2.out.lt (by simp only [ne_eq, Option.some.injEq]; omega)))
      have HS3 := hide (HS2.out.of_block (hg3.block w1.heap.size l22 (by simp only [ne_eq, Option.some.injEq]; omega)))
      have HRV3 := hide rv3
      have e22 : w1.heap.size < w3.heap.size := by omega
      have e0 : bu < w1.heap.size := by omega
      have ebm : bm < w3.heap.size := HMM3.out.head.lt
      have ebw : bw < w3.heap.size := HMM3.out.row.lt
      obtain ⟨b22, hb22⟩ : ∃ b, w1.heap.size = b := ⟨_, rfl⟩
      rw [hb22] at HS3 e22 e0 ⊢
      clear hb22 hW2 rv3 hg3 s3 sz2 l22
      obtain ⟨W4, hW4⟩ : ∃ W4, (w3.alloc (.cells tk0.toArray 64)).alloc (.cells #[.int .i64 0, .int .i64 0, .int .i64 0, .int .u64 0, .int .u64 0, .bool false] 71) = W4 := ⟨_, rfl⟩
      have B4 : Below w3.heap.size w3 W4 := by rw [← hW4]; exact ((Below.refl _ w3).alloc (Nat.le_refl _) _).alloc (by simp) _
      have sz4 : W4.heap.size = w3.heap.size + 2 := by rw [← hW4]; simp
      have r24 : W4.rowIs w3.heap.size 64 28 (lrow tk0) := by rw [← hW4]; exact (rowL_alloc w3 tk0 _ rfl).alloc _
      have r25 : W4.rowIs (w3.heap.size + 1) 71 6 (lrow [Value.int .i64 0, .int .i64 0, .int .i64 0, .int .u64 0, .int .u64 0, .bool false]) := by
        rw [← hW4]
        have := rowL_alloc (w3.alloc (.cells tk0.toArray 64)) [Value.int .i64 0, .int .i64 0, .int .i64 0, .int .u64 0, .int .u64 0, .bool false] 71 (n := 6) rfl
        rwa [World.size_alloc] at this
      obtain ⟨W5, hW5⟩ : ∃ W5, W4.setCells w3.heap.size 0 cs' = W5 := ⟨_, rfl⟩
      have T5 : Touch W4 W5 (fun k => k = w3.heap.size) := by rw [← hW5]; exact touch_setCells w3.heap.size cs' 0 W4
      have r24' : W5.rowIs w3.heap.size 64 28 (lrow cs') := by rw [← hW5]; exact (rowIs.setCells _ 0 _ _ r24).congr (fun i hi => by rw [if_pos (by rw [Q1.out.1]; omega)]; rfl)
      have r25' := r25.of_block (T5.block (w3.heap.size + 1) r25.lt (by omega))
      obtain ⟨W6, hW6⟩ : ∃ W6, W5.setCells (w3.heap.size + 1) 0 [Value.int .i64 x.hand, .int .i64 x.act, .int .i64 x.at_, .int .u64 x.had, .int .u64 x.put, .bool x.ok] = W6 := ⟨_, rfl⟩
      have T6 : Touch W5 W6 (fun k => k = w3.heap.size + 1) := by rw [← hW6]; exact touch_setCells (w3.heap.size + 1) [Value.int .i64 x.hand, .int .i64 x.act, .int .i64 x.at_, .int .u64 x.had, .int .u64 x.put, .bool x.ok] 0 W5
      have r25'' : W6.rowIs (w3.heap.size + 1) 71 6 (lrow [Value.int .i64 x.hand, .int .i64 x.act, .int .i64 x.at_, .int .u64 x.had, .int .u64 x.put, .bool x.ok]) := by rw [← hW6]; exact (rowIs.setCells _ 0 _ _ r25').congr (fun i hi => by rw [if_pos ⟨Nat.zero_le _, by simpa using hi⟩]; rfl)
      have r24'' := r24'.of_block (T6.block w3.heap.size r24'.lt (by omega))
      have B6 : Below w3.heap.size w3 W6 := (B4.trans (T5.below (fun k hk => by omega) B4.size)).trans (T6.below (fun k hk => by omega) (by have := T5.size; omega))
      have ru6 := HRU3.out.of_block (B6.block bu HRU3.out.lt)
      obtain ⟨W7, hW7⟩ : ∃ W7, W6.setCells bu 0 cs' = W7 := ⟨_, rfl⟩
      have T7 : Touch W6 W7 (fun k => k = bu) := by rw [← hW7]; exact touch_setCells bu cs' 0 W6
      have ru7 : W7.rowIs bu 64 28 (lrow cs') := by rw [← hW7]; exact (rowIs.setCells _ 0 _ _ ru6).congr (fun i hi => by rw [if_pos (by rw [Q1.out.1]; omega)]; rfl)
      have lb : ∀ k, k < w3.heap.size → k ≠ bu → W7.heap[k]? = w3.heap[k]? := fun k hk hn => (T7.block k (by have := B6.size; omega) hn).trans (B6.block k hk)
      have HB7 := hide (show Below W0.heap.size W0 W7 from HBE3.out.trans ((B6.mono HBE3.out.size).trans (T7.below (fun k hk => by omega) (by have := B6.size; have := HBE3.out.size; omega))))
      have HRT7 := hide (HRT3.out.of_block (lb bt HRT3.out.lt (by omega)))
      have HMM7 := hide (show IsMem W7 bm bw want F' from ⟨HMM3.out.head.of_block (lb bm ebm (by omega)), HMM3.out.row.of_block (lb bw ebw (by omega)), HMM3.out.most, HMM3.out.word⟩)
      have HRV7 := hide (HRV3.out.block (lb gv HRV3.out.lt (by omega)))
      have HS7 := hide (rowIs.range (HS3.out.of_block (lb b22 e22 (by omega))) rfl)
      have HT25 := hide (rowIs.range (r25''.of_block (T7.block _ r25''.lt (by omega))) rfl)
      have HT24 := hide (rowIs.range r24'' Q1.out.1)
      have HU7 := hide ru7
      have TH24 := hide (rowIs.there r24 (o := 0) (m := 28) (by omega))
      have TH25 := hide (rowIs.there r25' (o := 0) (m := 6) (by omega))
      have THU := hide (rowIs.there ru6 (o := 0) (m := 28) (by omega))
      have HW5 := hide hW5
      have HW6 := hide hW6
      have HW7 := hide hW7
      obtain ⟨dS, hdS⟩ := row46
      have DS := hide hdS
      clear B4 r24 r25 hW5 T5 r24' r25' hW6 T6 r25'' r24'' B6 ru6 hW7 T7 ru7 lb hdS sz4
      simp only [tk0] at hW4
      go_wp2_with (first
        | (refine wpList_store_mid (by rfl) 64 (.tmp 24) (.tmp 114) (by rfl) w3.heap.size 0 cs'.toArray (by rfl) (by rfl) (by simpa [Q1.out.1] using TH24.out) (by simpa [Q1.out.1] using size79) (by exact all_oneCell_toArray Q1.out.2) ?_; rw [List.toList_toArray, HW5.out]; clear hW4)
        | (refine wpList_store_mid (by rfl) 71 (.tmp 25) (.tmp 115) (by rfl) (w3.heap.size + 1) 0 [Value.int .i64 x.hand, .int .i64 x.act, .int .i64 x.at_, .int .u64 x.had, .int .u64 x.put, .bool x.ok].toArray (by rfl) (by rfl) (by exact TH25.out) (by exact size46) (by exact all_oneCell_toArray (step_one x)) ?_; rw [List.toList_toArray, HW6.out])
        | (refine wpList_load_mid (by rfl) 64 (.tmp 24) (by rfl) w3.heap.size 0 (by rfl) cs' dT (by exact HT24.out) (by exact DT.out.1) (by exact DT.out.2) (by rw [Q1.out.1]; exact size79) ?_)
        | (refine wpList_store_mid (by rfl) 64 (.tmp 17) (.tmp 117) (by rfl) bu 0 cs'.toArray (by rfl) (by rfl) (by simpa [Q1.out.1] using THU.out) (by simpa [Q1.out.1] using size79) (by exact all_oneCell_toArray Q1.out.2) ?_; rw [List.toList_toArray, HW7.out])
        | (refine wpList_load_mid (by rfl) 71 (.tmp 22) (by rfl) b22 0 (by rfl) [Value.int .i64 x.hand, .int .i64 x.act, .int .i64 x.at_, .int .u64 x.had, .int .u64 x.put, .bool x.ok] dS (by exact HS7.out) (by exact DS.out.1) (by exact DS.out.2) (by exact size46) ?_)
        | (refine wpList_load_mid (by rfl) 71 (.tmp 25) (by rfl) (w3.heap.size + 1) 0 (by rfl) [Value.int .i64 x.hand, .int .i64 x.act, .int .i64 x.at_, .int .u64 x.had, .int .u64 x.put, .bool x.ok] dS (by exact HT25.out) (by exact DS.out.1) (by exact DS.out.2) (by exact size46) ?_))
      have x22 : W7.cell? ⟨bu, 22, none⟩ = some (.bool s'.told.ok) := by
        rw [HU7.out.cell (i := 22) (by decide)]
        show some (cs'[22]?.getD default) = _
        rw [(Q3.out (by first | trivial | rfl)).1]; rfl
      have x23 : W7.cell? ⟨bu, 23, none⟩ = some (.int .u64 s'.told.val) := by
        rw [HU7.out.cell (i := 23) (by decide)]
        show some (cs'[23]?.getD default) = _
        rw [(Q3.out (by first | trivial | rfl)).2]; rfl
      have lu7 := HU7.out.lt
      have lv7 := HRV7.out.lt
      have l128 : want ≤ 9223372036854775807 := by omega
      have AN : Calls Try.prog fa #[.pointer (some ⟨bt, 0, none⟩)] W7.drew fun e w' => e = .returned (.agg #[.bool s'.told.ok, .int .u64 s'.told.val]) ∧ w'.cell? ⟨bu, 22, none⟩ = some (.bool s'.told.ok) ∧ w'.cell? ⟨bu, 23, none⟩ = some (.int .u64 s'.told.val) ∧ IsMem w' bm bw want F' ∧ IsRow w' gv want want F' ∧ Below W0.heap.size W0 w' ∧ bu < w'.heap.size := by
        refine (KANS.out W7.drew bt s' hj' HRT7.out.drew).mono ?_
        rintro e w9 ⟨he, hg9⟩
        have B9 : Below W7.heap.size W7 w9 := ⟨hg9.os, hg9.tape, hg9.output, hg9.size, fun k hk => hg9.block k hk (by simp)⟩
        exact ⟨he, (B9.cell (p := ⟨bu, 22, none⟩) lu7).trans x22, (B9.cell (p := ⟨bu, 23, none⟩) lu7).trans x23, HMM7.out.below B9, HRV7.out.block (B9.block gv lv7), HB7.out.trans (B9.mono HB7.out.size), Nat.lt_of_lt_of_le lu7 B9.size⟩
      have HAN := hide AN
      clear AN
      clear HS7 HT25 HT24 TH24 TH25 THU HW5 HW6 HW7 DS DT Q5 Q2 AL
      go_region_held (fun w' => w'.cell? ⟨bu, 22, none⟩ = some (.bool s'.told.ok) ∧ w'.cell? ⟨bu, 23, none⟩ = some (.int .u64 s'.told.val)) (go_keep) (first
        | (refine HAN.out.mono ?_; rintro e w9 ⟨rfl, y22, y23, mm9, hv9, hb9, lu9⟩; have MM9 := hide mm9; have HV9 := hide hv9; have HB9 := hide hb9; clear mm9 hv9 hb9)
        | (go_at_call 23; refine (words_mem MM9.out).mono ?_; rintro e w10 ⟨g10, rfl, hr10, hb10, hg10⟩; have z22 := (hb10.cell (p := ⟨bu, 22, none⟩) lu9).trans y22; have z23 := (hb10.cell (p := ⟨bu, 23, none⟩) lu9).trans y23; have HR10 := hide hr10; have HV10 := hide (HV9.out.block (hb10.block gv HV9.out.lt)); have HB10 := hide (HB9.out.trans (hb10.mono HB9.out.size)); clear hr10 hb10)
        | (go_at_call 18; refine (same_words HR10.out.sees HV10.out.sees (fun i hi => rfl) l128).mono ?_; rintro e w11 ⟨rfl, m11, hw11⟩; have t22 : w11.cell? ⟨bu, 22, none⟩ = some (.bool s'.told.ok) := (by rw [hw11]; exact z22); have t23 : w11.cell? ⟨bu, 23, none⟩ = some (.int .u64 s'.told.val) := (by rw [hw11]; exact z23); have HB11' := hide (show Below W0.heap.size W0 w11 from by rw [hw11]; exact below_drewN HB10.out m11); clear hw11))
      go_wp2_with fail
      go_ret
      exact ⟨rfl, FINB.out _ HB11'.out⟩
    · skip
      obtain ⟨W2, hW2⟩ : ∃ W2, w1.alloc (.cells #[.int .i64 x.hand, .int .i64 x.act, .int .i64 x.at_, .int .u64 x.had, .int .u64 x.put, .bool x.ok] 71) = W2 := ⟨_, rfl⟩
      have B2 : Below w1.heap.size w1 W2 := by rw [← hW2]; exact (Below.refl _ w1).alloc (Nat.le_refl _) _
      have sz2 : W2.heap.size = w1.heap.size + 1 := by rw [← hW2]; simp
      have r22 : W2.rowIs w1.heap.size 71 6 (lrow [Value.int .i64 x.hand, .int .i64 x.act, .int .i64 x.at_, .int .u64 x.had, .int .u64 x.put, .bool x.ok]) := by rw [← hW2]; exact rowL_alloc w1 [Value.int .i64 x.hand, .int .i64 x.act, .int .i64 x.at_, .int .u64 x.had, .int .u64 x.put, .bool x.ok] _ rfl
      have HBE2 := hide (BE1.out.trans (B2.mono BE1.out.size))
      have HRT2 := hide (HRT1.out.of_block (B2.block bt HRT1.out.lt))
      have HMM2 := hide (HMM1.out.below B2)
      have HRV2 := hide (HRV1.out.block (B2.block gv HRV1.out.lt))
      have HRU2 := hide (HRU1.out.of_block (B2.block bu HRU1.out.lt))
      have HS2 := hide r22
      have l22 := r22.lt
      clear B2 r22
      go_wp2_with (refine wpList_load_mid (by rfl) 64 (.tmp 17) (by rfl) bu 0 (by rfl) cs dT (by exact rowIs.range HRU2.out HITK.out.1) (by exact DT.out.1) (by exact DT.out.2) (by rw [HITK.out.1]; exact size79) ?_)
      refine (Q5.out W2 gv want HRV2.out).mono ?_
      rintro e w3 ⟨rfl, rv3, hg3⟩
      simp only [Stp.val]
      have s3 := hg3.size
      have HBE3 := hide (HBE2.out.trans (grown_below hg3 HBE2.out.size (by omega)))
      have HRT3 := hide (HRT2.out.of_block (hg3.block bt HRT2.out.lt (by simp only [ne_eq, Option.some.injEq]; omega)))
      have HMM3 := hide (HMM2.out.grown hg3 (by simp only [ne_eq, Option.some.injEq]; omega) (by simp only [ne_eq, Option.some.injEq]; omega))
      have HRU3 := hide (HRU2.out.of_block (hg3.block bu HRU2.out.lt (by simp only [ne_eq, Option.some.injEq]; omega)))
      have HS3 := hide (HS2.out.of_block (hg3.block w1.heap.size l22 (by simp only [ne_eq, Option.some.injEq]; omega)))
      have HRV3 := hide rv3
      have e22 : w1.heap.size < w3.heap.size := by omega
      have e0 : bu < w1.heap.size := by omega
      have ebm : bm < w3.heap.size := HMM3.out.head.lt
      have ebw : bw < w3.heap.size := HMM3.out.row.lt
      obtain ⟨b22, hb22⟩ : ∃ b, w1.heap.size = b := ⟨_, rfl⟩
      rw [hb22] at HS3 e22 e0 ⊢
      clear hb22 hW2 rv3 hg3 s3 sz2 l22
      obtain ⟨W4, hW4⟩ : ∃ W4, (w3.alloc (.cells tk0.toArray 64)).alloc (.cells #[.int .i64 0, .int .i64 0, .int .i64 0, .int .u64 0, .int .u64 0, .bool false] 71) = W4 := ⟨_, rfl⟩
      have B4 : Below w3.heap.size w3 W4 := by rw [← hW4]; exact ((Below.refl _ w3).alloc (Nat.le_refl _) _).alloc (by simp) _
      have sz4 : W4.heap.size = w3.heap.size + 2 := by rw [← hW4]; simp
      have r24 : W4.rowIs w3.heap.size 64 28 (lrow tk0) := by rw [← hW4]; exact (rowL_alloc w3 tk0 _ rfl).alloc _
      have r25 : W4.rowIs (w3.heap.size + 1) 71 6 (lrow [Value.int .i64 0, .int .i64 0, .int .i64 0, .int .u64 0, .int .u64 0, .bool false]) := by
        rw [← hW4]
        have := rowL_alloc (w3.alloc (.cells tk0.toArray 64)) [Value.int .i64 0, .int .i64 0, .int .i64 0, .int .u64 0, .int .u64 0, .bool false] 71 (n := 6) rfl
        rwa [World.size_alloc] at this
      obtain ⟨W5, hW5⟩ : ∃ W5, W4.setCells w3.heap.size 0 cs' = W5 := ⟨_, rfl⟩
      have T5 : Touch W4 W5 (fun k => k = w3.heap.size) := by rw [← hW5]; exact touch_setCells w3.heap.size cs' 0 W4
      have r24' : W5.rowIs w3.heap.size 64 28 (lrow cs') := by rw [← hW5]; exact (rowIs.setCells _ 0 _ _ r24).congr (fun i hi => by rw [if_pos (by rw [Q1.out.1]; omega)]; rfl)
      have r25' := r25.of_block (T5.block (w3.heap.size + 1) r25.lt (by omega))
      obtain ⟨W6, hW6⟩ : ∃ W6, W5.setCells (w3.heap.size + 1) 0 [Value.int .i64 x.hand, .int .i64 x.act, .int .i64 x.at_, .int .u64 x.had, .int .u64 x.put, .bool x.ok] = W6 := ⟨_, rfl⟩
      have T6 : Touch W5 W6 (fun k => k = w3.heap.size + 1) := by rw [← hW6]; exact touch_setCells (w3.heap.size + 1) [Value.int .i64 x.hand, .int .i64 x.act, .int .i64 x.at_, .int .u64 x.had, .int .u64 x.put, .bool x.ok] 0 W5
      have r25'' : W6.rowIs (w3.heap.size + 1) 71 6 (lrow [Value.int .i64 x.hand, .int .i64 x.act, .int .i64 x.at_, .int .u64 x.had, .int .u64 x.put, .bool x.ok]) := by rw [← hW6]; exact (rowIs.setCells _ 0 _ _ r25').congr (fun i hi => by rw [if_pos ⟨Nat.zero_le _, by simpa using hi⟩]; rfl)
      have r24'' := r24'.of_block (T6.block w3.heap.size r24'.lt (by omega))
      have B6 : Below w3.heap.size w3 W6 := (B4.trans (T5.below (fun k hk => by omega) B4.size)).trans (T6.below (fun k hk => by omega) (by have := T5.size; omega))
      have ru6 := HRU3.out.of_block (B6.block bu HRU3.out.lt)
      obtain ⟨W7, hW7⟩ : ∃ W7, W6.setCells bu 0 cs' = W7 := ⟨_, rfl⟩
      have T7 : Touch W6 W7 (fun k => k = bu) := by rw [← hW7]; exact touch_setCells bu cs' 0 W6
      have ru7 : W7.rowIs bu 64 28 (lrow cs') := by rw [← hW7]; exact (rowIs.setCells _ 0 _ _ ru6).congr (fun i hi => by rw [if_pos (by rw [Q1.out.1]; omega)]; rfl)
      have lb : ∀ k, k < w3.heap.size → k ≠ bu → W7.heap[k]? = w3.heap[k]? := fun k hk hn => (T7.block k (by have := B6.size; omega) hn).trans (B6.block k hk)
      have HB7 := hide (show Below W0.heap.size W0 W7 from HBE3.out.trans ((B6.mono HBE3.out.size).trans (T7.below (fun k hk => by omega) (by have := B6.size; have := HBE3.out.size; omega))))
      have HRT7 := hide (HRT3.out.of_block (lb bt HRT3.out.lt (by omega)))
      have HMM7 := hide (show IsMem W7 bm bw want F' from ⟨HMM3.out.head.of_block (lb bm ebm (by omega)), HMM3.out.row.of_block (lb bw ebw (by omega)), HMM3.out.most, HMM3.out.word⟩)
      have HRV7 := hide (HRV3.out.block (lb gv HRV3.out.lt (by omega)))
      have HS7 := hide (rowIs.range (HS3.out.of_block (lb b22 e22 (by omega))) rfl)
      have HT25 := hide (rowIs.range (r25''.of_block (T7.block _ r25''.lt (by omega))) rfl)
      have HT24 := hide (rowIs.range r24'' Q1.out.1)
      have HU7 := hide ru7
      have TH24 := hide (rowIs.there r24 (o := 0) (m := 28) (by omega))
      have TH25 := hide (rowIs.there r25' (o := 0) (m := 6) (by omega))
      have THU := hide (rowIs.there ru6 (o := 0) (m := 28) (by omega))
      have HW5 := hide hW5
      have HW6 := hide hW6
      have HW7 := hide hW7
      obtain ⟨dS, hdS⟩ := row46
      have DS := hide hdS
      clear B4 r24 r25 hW5 T5 r24' r25' hW6 T6 r25'' r24'' B6 ru6 hW7 T7 ru7 lb hdS sz4
      simp only [tk0] at hW4
      go_wp2_with (first
        | (refine wpList_store_mid (by rfl) 64 (.tmp 24) (.tmp 114) (by rfl) w3.heap.size 0 cs'.toArray (by rfl) (by rfl) (by simpa [Q1.out.1] using TH24.out) (by simpa [Q1.out.1] using size79) (by exact all_oneCell_toArray Q1.out.2) ?_; rw [List.toList_toArray, HW5.out]; clear hW4)
        | (refine wpList_store_mid (by rfl) 71 (.tmp 25) (.tmp 115) (by rfl) (w3.heap.size + 1) 0 [Value.int .i64 x.hand, .int .i64 x.act, .int .i64 x.at_, .int .u64 x.had, .int .u64 x.put, .bool x.ok].toArray (by rfl) (by rfl) (by exact TH25.out) (by exact size46) (by exact all_oneCell_toArray (step_one x)) ?_; rw [List.toList_toArray, HW6.out])
        | (refine wpList_load_mid (by rfl) 64 (.tmp 24) (by rfl) w3.heap.size 0 (by rfl) cs' dT (by exact HT24.out) (by exact DT.out.1) (by exact DT.out.2) (by rw [Q1.out.1]; exact size79) ?_)
        | (refine wpList_store_mid (by rfl) 64 (.tmp 17) (.tmp 117) (by rfl) bu 0 cs'.toArray (by rfl) (by rfl) (by simpa [Q1.out.1] using THU.out) (by simpa [Q1.out.1] using size79) (by exact all_oneCell_toArray Q1.out.2) ?_; rw [List.toList_toArray, HW7.out])
        | (refine wpList_load_mid (by rfl) 71 (.tmp 22) (by rfl) b22 0 (by rfl) [Value.int .i64 x.hand, .int .i64 x.act, .int .i64 x.at_, .int .u64 x.had, .int .u64 x.put, .bool x.ok] dS (by exact HS7.out) (by exact DS.out.1) (by exact DS.out.2) (by exact size46) ?_)
        | (refine wpList_load_mid (by rfl) 71 (.tmp 25) (by rfl) (w3.heap.size + 1) 0 (by rfl) [Value.int .i64 x.hand, .int .i64 x.act, .int .i64 x.at_, .int .u64 x.had, .int .u64 x.put, .bool x.ok] dS (by exact HT25.out) (by exact DS.out.1) (by exact DS.out.2) (by exact size46) ?_))
      exact ⟨⟨k + 1, s', F', cs', (AL.out (by simp)).2.1, by simp, HRT7.out, HMM7.out, HRV7.out, HU7.out, Q1.out, Q2.out (by simp), ⟨hj', (AL.out (by simp)).2.2⟩, (AL.out (by simp)).1, HB7.out⟩, by simp only [intOf]; omega⟩
end Epoch
end Go.Proofs.Ytdflicgjkleonaa
