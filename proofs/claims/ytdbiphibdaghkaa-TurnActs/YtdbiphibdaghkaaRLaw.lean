/-
  TurnActs: the law's own walk.
-/
import Derived.Test.YtdbiphibdaghkaaRSameA
namespace Go.Proofs.Ytdbiphibdaghkaa
open Go.RowKit
set_option linter.unusedVariables false
set_option linter.unusedSimpArgs false
set_option linter.unnecessarySimpa false
set_option maxRecDepth 20000

/-- What a run tells. -/
structure Vw where
  k : Nat
  s : Nat → Stp
  n : Nat
  f : Nat → Int
  en : Bool
  m : Nat
  dn : Nat → Nat
  an : Nat → Nat → Ans
  er : Int

/-- A told value, as it is seen. -/
def TV (w : World) (V : Vw) (v : Value) : Prop :=
  ∃ sa sc wa wc aa ac, v = .tuple #[.agg #[.slice sa V.k sc, .slice wa V.n wc, .bool V.en], .slice aa V.m ac, .int .i64 V.er] ∧ SeesS w w.heap.size sa V.k V.s ∧ Sees w w.heap.size wa V.n V.f ∧ SeesA w w.heap.size aa V.m V.dn V.an

theorem views (P : Par) (f : Nat → Int) (most : Int) : ∃ V : Vw, V.k ≤ 65536 ∧ V.n ≤ 4096 ∧ V.m ≤ 8 ∧ (∀ h, h < V.m → V.dn h ≤ 256) ∧
    (∀ w e w', RAllB w P f most e w' → Below w.heap.size w w' ∧ ∃ v, e = .returned v ∧ TV w' V v) ∧ (∀ w e w', OfActs.AllB w P f most e w' → Below w.heap.size w w' ∧ ∃ v, e = .returned v ∧ TV w' V v) := by
  by_cases hE : ∃ er, ErrOf kAct P most er
  · obtain ⟨er, hE⟩ := hE
    have tv : ∀ w, TV w ⟨0, fun _ => ⟨0, 0, 0, 0, 0, false⟩, 0, fun _ => 0, false, 0, fun _ => 0, fun _ _ => ⟨false, 0⟩, er⟩ (errVal er) := fun w => ⟨none, 0, none, 0, none, 0, rfl, fun j hj => absurd hj (Nat.not_lt_zero j), fun j hj => absurd hj (Nat.not_lt_zero j), fun j hj => absurd hj (Nat.not_lt_zero j)⟩
    refine ⟨⟨0, fun _ => ⟨0, 0, 0, 0, 0, false⟩, 0, fun _ => 0, false, 0, fun _ => 0, fun _ _ => ⟨false, 0⟩, er⟩, Nat.zero_le _, Nat.zero_le _, Nat.zero_le _, fun _ _ => Nat.zero_le _, ?_, ?_⟩
    · rintro w e w' ⟨hb, ⟨er', h, rfl⟩ | ⟨h1, h2, _⟩⟩
      · obtain rfl := h.one hE
        exact ⟨hb, _, rfl, tv w'⟩
      · exact absurd ⟨h1, h2⟩ hE.not
    · rintro w e w' ⟨hb, ⟨er', h, rfl⟩ | ⟨h1, h2, _⟩⟩
      · obtain rfl := h.one hE
        exact ⟨hb, _, rfl, tv w'⟩
      · exact absurd ⟨h1, h2⟩ hE.not
  · by_cases hf : Fine P most
    · have st := runSt P (st0 kAct P f) most.toNat
      have hk : (runSt P (st0 kAct P f) most.toNat).k ≤ 65536 := by
        have := (runSt_k P (st0 kAct P f) rfl most.toNat).1
        have := hf.2.2.2
        omega
      have hnh : P.nh ≤ 8 := by rcases Nat.lt_or_ge 8 P.nh with l | l; exact absurd (.inl l) hf.2.1; exact l
      by_cases hd : ∀ h, h < P.nh → (runSt P (st0 kAct P f) most.toNat).done h ≤ 256
      · refine ⟨⟨(runSt P (st0 kAct P f) most.toNat).k, (runSt P (st0 kAct P f) most.toNat).s, P.n, (runSt P (st0 kAct P f) most.toNat).f, decide (cnt ((runSt P (st0 kAct P f) most.toNat).going P) P.nh = 0), P.nh, (runSt P (st0 kAct P f) most.toNat).done, (runSt P (st0 kAct P f) most.toNat).ans, 0⟩, hk, hf.1, hnh, hd, ?_, ?_⟩
        · rintro w e w' ⟨hb, ⟨er', h, rfl⟩ | ⟨h1, h2, v, rfl, blk, c, un, capw, sv, rfl, H, G⟩⟩
          · exact absurd ⟨_, h⟩ hE
          · obtain ⟨sa, sc, rfl⟩ := G.steps.isSlice'
            exact ⟨hb, _, rfl, sa, sc, _, _, _, _, rfl, G.steps.seesS H, G.seesW H, seesA_of G.answers H⟩
        · rintro w e w' ⟨hb, ⟨er', h, rfl⟩ | ⟨h1, h2, v, rfl, blk, c, g, sv, rfl, H, G, GS, R, hg, hne⟩⟩
          · exact absurd ⟨_, h⟩ hE
          · obtain ⟨sa, sc, rfl⟩ := GS.isSlice'
            exact ⟨hb, _, rfl, sa, sc, _, _, _, _, rfl, GS.seesS H, R.sees, seesA_of G.answers H⟩
      · refine ⟨⟨0, fun _ => ⟨0, 0, 0, 0, 0, false⟩, 0, fun _ => 0, false, 0, fun _ => 0, fun _ _ => ⟨false, 0⟩, 0⟩, Nat.zero_le _, Nat.zero_le _, Nat.zero_le _, fun _ _ => Nat.zero_le _, ?_, ?_⟩
        · rintro w e w' ⟨hb, ⟨er', h, rfl⟩ | ⟨h1, h2, v, rfl, blk, c, un, capw, sv, rfl, H, G⟩⟩
          · exact absurd ⟨_, h⟩ hE
          · exact absurd (fun h hh => Nat.le_trans (G.doneLe h hh) (G.jobs h hh)) hd
        · rintro w e w' ⟨hb, ⟨er', h, rfl⟩ | ⟨h1, h2, v, rfl, blk, c, g, sv, rfl, H, G, GS, R, hg, hne⟩⟩
          · exact absurd ⟨_, h⟩ hE
          · exact absurd (fun h hh => Nat.le_trans (G.doneLe h hh) (G.jobs h hh)) hd
    · refine ⟨⟨0, fun _ => ⟨0, 0, 0, 0, 0, false⟩, 0, fun _ => 0, false, 0, fun _ => 0, fun _ _ => ⟨false, 0⟩, 0⟩, Nat.zero_le _, Nat.zero_le _, Nat.zero_le _, fun _ _ => Nat.zero_le _, ?_, ?_⟩
      · rintro w e w' ⟨hb, ⟨er', h, rfl⟩ | ⟨h1, _⟩⟩
        · exact absurd ⟨_, h⟩ hE
        · exact absurd h1 hf
      · rintro w e w' ⟨hb, ⟨er', h, rfl⟩ | ⟨h1, _⟩⟩
        · exact absurd ⟨_, h⟩ hE
        · exact absurd h1 hf

variable {w : World} {ao aoh aos : Option Addr} {cap caph caps : Nat} {P : Par} {f : Nat → Int} {most : Int}

set_option maxHeartbeats 8000000 in
theorem acts_walk (S : Sees w w.heap.size ao P.n f) (hnil : ao = none → P.n = 0 ∧ cap = 0) (hn : P.n ≤ 9223372036854775807) (hf : ∀ i, i < P.n → 0 ≤ f i ∧ f i ≤ 18446744073709551615) (SH : SeesH w w.heap.size aoh P.nh P.jn P.jb) (hn63 : P.nh ≤ 9223372036854775807) (SI : SeesI w w.heap.size aos P.ns P.sched) (hjw : ∀ h, h < P.nh → ∀ j, j < P.jn h → (P.jb h j).wf) :
    Calls Try.prog 3 #[.slice ao P.n cap, .slice aoh P.nh caph, .slice aos P.ns caps, .int .i64 most] w fun e w' => e = .returned (.bool true) ∧ Below w.heap.size w w' := by
  have ups : Hid (∀ w1, Below w.heap.size w w1 → Sees w1 w1.heap.size ao P.n f ∧ SeesH w1 w1.heap.size aoh P.nh P.jn P.jb ∧ SeesI w1 w1.heap.size aos P.ns P.sched) := by
    intro w1 B1
    have hs1 := B1.size
    refine ⟨(S.below B1 (Nat.le_refl _)).mono hs1, fun i hi => ?_, fun i hi => ?_⟩
    · obtain ⟨b, off, ao', cap, e, hb, hc, hj⟩ := SH.below B1 (Nat.le_refl _) i hi
      exact ⟨b, off, ao', cap, e, by omega, hc, fun q hq => by obtain ⟨b', off', e', hb', hc'⟩ := hj q hq; exact ⟨b', off', e', by omega, hc'⟩⟩
    · obtain ⟨b, off, e, hb, hc⟩ := SI.below B1 (Nat.le_refl _) i hi
      exact ⟨b, off, e, by omega, hc⟩
  have HN := hide hnil
  have HF := hide hf
  have HJW := hide hjw
  obtain ⟨V, v1, v2, v3, v4, v5, v6⟩ := views P f most
  obtain ⟨k, s, n, f', en, m, dn, an, er⟩ := V
  simp only at v1 v2 v3 v4
  have V4 := hide v4
  have V5 := hide v5
  have V6 := hide v6
  clear S SH SI hjw hnil hf v4 v5 v6
  go_enter Try.func3, Try.ntmps3
  go_wp2_with fail
  refine (OfActs.awake_any w).mono ?_
  rintro e w1 ⟨rfl, hb1⟩
  have hs1 := hb1.size
  have B1 := hide hb1
  clear hb1
  go_wp2_with fail
  refine (racts_all (ups.out w1 B1.out).1 HN.out hn HF.out (ups.out w1 B1.out).2.1 hn63 (ups.out w1 B1.out).2.2 HJW.out).mono ?_
  rintro e w2 ha
  obtain ⟨hb2, v, rfl, sa, sc, wa, wc, aa, ac, rfl, S2, W2, A2⟩ := V5.out _ _ _ ha
  have hs2 := hb2.size
  have B2 := hide (B1.out.trans (hb2.mono hs1))
  have HS2 := hide S2
  have HW2 := hide W2
  have HA2 := hide A2
  clear ha hb2 S2 W2 A2
  obtain ⟨W3, hW3⟩ : ∃ W3, w2.alloc (.cells #[.slice sa k sc, .slice wa n wc, .bool en] 28) = W3 := ⟨_, rfl⟩
  have B23 : Below w2.heap.size w2 W3 := by rw [← hW3]; exact (Below.refl _ w2).alloc (Nat.le_refl _) _
  have B3 := hide (B2.out.trans (B23.mono (by omega)))
  have R3 := hide (show W3.rowIs w2.heap.size 28 3 (lrow [.slice sa k sc, .slice wa n wc, .bool en]) from by rw [← hW3]; exact rowL_alloc w2 [.slice sa k sc, .slice wa n wc, .bool en] _ rfl)
  have HB23 := hide B23
  have hs3 : W3.heap.size = w2.heap.size + 1 := by rw [← hW3]; simp
  clear B23
  go_wp2_with fail
  refine (OfActs.acts_all (ups.out W3 B3.out).1 HF.out (ups.out W3 B3.out).2.1 hn63 (ups.out W3 B3.out).2.2 HJW.out).mono ?_
  rintro e w4 ha
  obtain ⟨hb4, v, rfl, sa', sc', wa', wc', aa', ac', rfl, S4, W4, A4⟩ := V6.out _ _ _ ha
  have hs4 := hb4.size
  have HB4 := hide hb4
  have HS4 := hide S4
  have HW4 := hide W4
  have HA4 := hide A4
  clear ha hb4 S4 W4 A4 hW3
  obtain ⟨W5, hW5⟩ : ∃ W5, w4.alloc (.cells #[.slice sa' k sc', .slice wa' n wc', .bool en] 28) = W5 := ⟨_, rfl⟩
  have B45 : Below w4.heap.size w4 W5 := by rw [← hW5]; exact (Below.refl _ w4).alloc (Nat.le_refl _) _
  have R5 := hide (show W5.rowIs w4.heap.size 28 3 (lrow [.slice sa' k sc', .slice wa' n wc', .bool en]) from by rw [← hW5]; exact rowL_alloc w4 [.slice sa' k sc', .slice wa' n wc', .bool en] _ rfl)
  have hs5 : W5.heap.size = w4.heap.size + 1 := by rw [← hW5]; simp
  have R35 := hide (R3.out.of_block ((HB4.out.trans (B45.mono (by omega))).block _ (by omega)))
  have B25 := hide (HB23.out.trans ((HB4.out.trans (B45.mono (by omega))).mono (by omega)))
  have B5 := hide (B3.out.trans ((HB4.out.trans (B45.mono (by omega))).mono (by omega)))
  have HB45 := hide B45
  have c0 : W5.cell? ⟨w2.heap.size, 0, none⟩ = some (.slice sa k sc) := R35.out.cell (i := 0) (by omega)
  have c1 : W5.cell? ⟨w2.heap.size, 1, none⟩ = some (.slice wa n wc) := R35.out.cell (i := 1) (by omega)
  have c2 : W5.cell? ⟨w2.heap.size, 2, none⟩ = some (.bool en) := R35.out.cell (i := 2) (by omega)
  have d0 : W5.cell? ⟨w4.heap.size, 0, none⟩ = some (.slice sa' k sc') := R5.out.cell (i := 0) (by omega)
  have d1 : W5.cell? ⟨w4.heap.size, 1, none⟩ = some (.slice wa' n wc') := R5.out.cell (i := 1) (by omega)
  have d2 : W5.cell? ⟨w4.heap.size, 2, none⟩ = some (.bool en) := R5.out.cell (i := 2) (by omega)
  have l24 : w2.heap.size ≤ W5.heap.size := by omega
  have l45 : w4.heap.size ≤ W5.heap.size := by omega
  have hws : w.heap.size ≤ W5.heap.size := by omega
  have l25 : w2.heap.size ≤ w2.heap.size := Nat.le_refl _
  clear B45
  go_wp2_with (first
    | (go_at_call 12; refine (same_trace ((HS4.out.below HB45.out (Nat.le_refl _)).mono l45) ((HS2.out.below B25.out (Nat.le_refl _)).mono l24) ((HW4.out.below HB45.out (Nat.le_refl _)).mono l45) ((HW2.out.below B25.out (Nat.le_refl _)).mono l24) v2 v1).mono ?_; rintro e w6 ⟨rfl, hb6⟩; have HB6 := hide hb6; clear hb6)
    | (go_at_call 13; refine (same_answers (((HA4.out.below HB45.out (Nat.le_refl _)).mono l45).below HB6.out (Nat.le_refl _)) (((HA2.out.below B25.out (Nat.le_refl _)).mono l24).below HB6.out (Nat.le_refl _)) v3 V4.out).mono ?_; rintro e w7 ⟨rfl, m7, hw7⟩; subst hw7))
  go_ret
  exact ⟨rfl, below_drewN (B5.out.trans (HB6.out.mono hws)) _⟩
end Go.Proofs.Ytdbiphibdaghkaa
