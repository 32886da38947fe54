/-
  The law CellsTold, walked: each step tells what stood there and what stands there then.
-/
import Derived.Test.YtfggjnjndemipaaScripts
namespace Go.Proofs.Ytfggjnjndemipaa
namespace Told
open Go.ChangeShapes Go.WideShapes Go.ChangeAt Go.RowKit
open Scripts (drewN_below sees_none seesS_none list2)
set_option linter.unusedVariables false
set_option linter.unusedSimpArgs false

theorem below_drewN {B : Nat} {a w : World} (h : Below B a w) (m : Nat) : Below B a (w.drewN m) := ⟨h.os, h.tape, h.output, h.size, h.block⟩

/-- What a step tells, case by case: the act that is told, what was, what is, whether it was done. -/
inductive Tells (s : Stp) (had : Int) : Int → Int → Bool → Prop
  | load : Tells s had 1 had true
  | store : Tells s had 2 s.put true
  | swap : Tells s had 3 s.put true
  | add : Tells s had 4 ((had + s.put) % 18446744073709551616) true
  | hit : had = s.had → Tells s had 5 s.put true
  | miss : ¬ had = s.had → Tells s had 5 had false

theorem tells_in {n : Nat} {f : Nat → Int} {s : Stp} (h : 0 ≤ s.at_ ∧ s.at_ < n) : ∃ act put ok, stepOf n f s = ⟨s.hand, act, s.at_, f s.at_.toNat, put, ok⟩ ∧ Tells s (f s.at_.toNat) act put ok := by
  unfold stepOf
  rw [if_pos h]
  have : actOf s.act = 1 ∨ actOf s.act = 2 ∨ actOf s.act = 3 ∨ actOf s.act = 4 ∨ actOf s.act = 5 := by unfold actOf; split <;> omega
  rcases this with e | e | e | e | e
  · exact ⟨1, _, _, by rw [e]; simp [putBy], .load⟩
  · exact ⟨2, _, _, by rw [e]; simp [putBy], .store⟩
  · exact ⟨3, _, _, by rw [e]; simp [putBy], .swap⟩
  · exact ⟨4, _, _, by rw [e]; simp [putBy], .add⟩
  · by_cases hh : f s.at_.toNat = s.had
    · exact ⟨5, _, _, by rw [e]; simp [putBy, hh], .hit hh⟩
    · exact ⟨5, _, _, by rw [e]; simp [putBy, hh], .miss hh⟩

theorem tells_out {n : Nat} {f : Nat → Int} {s : Stp} (h : ¬ (0 ≤ s.at_ ∧ s.at_ < n)) : ∃ act ok, stepOf n f s = ⟨s.hand, act, s.at_, 0, 0, ok⟩ ∧ ok = !(act == 5) := by
  unfold stepOf
  rw [if_neg h]
  refine ⟨_, _, rfl, ?_⟩
  rw [Bool.eq_iff_iff]; simp

set_option maxRecDepth 100000 in
set_option maxHeartbeats 32000000 in
theorem walk {w : World} {ao ao' : Option Addr} {n cap l cap' : Nat} {f : Nat → Int} {a : Nat → Stp} (h : Sees w w.heap.size ao n f) (hnil : ao = none → n = 0 ∧ cap = 0) (hf : ∀ i, i < n → 0 ≤ f i ∧ f i ≤ 18446744073709551615)
    (h' : SeesS w w.heap.size ao' l a) (hp : ∀ i, i < l → 0 ≤ (a i).put ∧ (a i).put ≤ 18446744073709551615) :
    Calls Try.prog 7 #[.slice ao n cap, .slice ao' l cap'] w fun e w' => e = .returned (.bool true) ∧ Below w.heap.size w w' := by
  obtain ⟨i0, hi, hz0, hz1, hz2⟩ := info_parts info36z
  have H := hide h
  have H' := hide h'
  have HF := hide hf
  have HP := hide hp
  have HN := hide hnil
  clear h h' hf hp hnil
  go_enter Try.func7, Try.ntmps7
  go_wp2_with fail
  refine (alive_any _).mono ?_
  rintro e w1 ⟨rfl, hb1⟩
  have B1 := hide hb1
  have hs1 := hb1.size
  clear hb1
  by_cases hl : 4096 < n ∨ 65536 < l
  · go_wp2_with fail
    refine (script_long ((H.out.below B1.out (Nat.le_refl _)).mono hs1) HF.out hl).mono ?_
    rintro e w2 ⟨rfl, hb2⟩
    have B2 := hide (B1.out.trans (hb2.mono hs1))
    clear hb2
    go_wp2
    go_ret
    exact ⟨rfl, B2.out⟩
  · have hn : n ≤ 4096 := by omega
    have hll : l ≤ 65536 := by omega
    go_wp2_with fail
    refine (script_any ((H.out.below B1.out (Nat.le_refl _)).mono hs1) HF.out hn ((H'.out.below B1.out (Nat.le_refl _)).mono hs1) hll HP.out).mono ?_
    rintro e w3 ⟨gs, gw, rfl, hst, hr3, hb3, hgs, hgw⟩
    have B3 := hide (B1.out.trans (hb3.mono hs1))
    have hs3 := B3.out.size
    have HS3 := hide hst
    have HR3 := hide hr3
    have lgs := hst.lt
    have lgw := hr3.lt
    clear hst hr3 hb3
    go_wp2_with (at_builtin; refine wpList_append_opt rfl (.tmp 42) (.tmp 43) 22 rfl w3.heap.size 36 i0 (.int .u64 0) 1 8 Try.underlying22 hi hz0 hz1 hz2 rfl (by decide) (.slice (some ⟨w3.heap.size, 0, none⟩) 0 0) 0 [] rfl (World.ownsRow_lit _ #[] 0 (by omega) (by unfold maxLen; omega) rfl) ao n cap (wordCells n f) rfl HN.out (by simp [wordCells]) ((((H.out.below B3.out (Nat.le_refl _)).mono hs3).alloc _).news) (wordCells_one n f) (by unfold maxLen; omega) (by omega) (by simp) ?_; intro v4 w4 hown4 hgrow4 hnn)
    obtain ⟨g, capg, rfl, hr4, hg4⟩ := owned_row (by simpa using hown4) (by intro e; have := hnn e; simp at this) HF.out
    have b4 : Below w3.heap.size w3 w4 := ((Below.refl _ w3).alloc (Nat.le_refl _) _).grown hgrow4 (by simp) (by intro k hk; simp [Value.ownBlock] at hk; omega)
    have B4 := hide b4
    have R4 := hide hr4
    clear hown4 hgrow4 hnn hr4 b4
    go_loopw [9] (fun i wr => ∃ k : Nat, k ≤ l ∧ i = .int .i64 k ∧ IsRow wr g n capg (runW n f a k) ∧ Below w3.heap.size w3 wr) (fun i _ => l - (intOf i).toNat)
    case atStart => exact ⟨0, Nat.zero_le _, rfl, R4.out, B4.out⟩
    case round =>
      obtain ⟨k, hk, rfl, hr, hb⟩ := hrel
      by_cases hlt : k < l
      · obtain ⟨b, off, rfl, hbl, hcc⟩ := H'.out k hlt
        have bw : Below w.heap.size w wr := B3.out.trans (hb.mono hs3)
        have hcx : ∀ i, i < 6 → wr.cell? ⟨b, off + k * 6 + i, none⟩ = some ((a k).cell i) := fun i hi => (bw.cell (p := ⟨b, off + k * 6 + i, none⟩) hbl).trans (hcc i hi)
        have hsx : ∀ i, i < 6 → wr.cell? ⟨gs, k * 6 + i, none⟩ = some ((runS n f a k).cell i) := fun i hi => by
          obtain ⟨b', off', he, _, hc⟩ := ((HS3.out.sees).below hb (Nat.le_refl _)) k hlt
          cases he
          simpa using hc i hi
        have p0 := hcx 0 (by omega)
        have p1 := hcx 1 (by omega)
        have p2 := hcx 2 (by omega)
        have p3 := hcx 3 (by omega)
        have p4 := hcx 4 (by omega)
        have p5 := hcx 5 (by omega)
        have q0 := hsx 0 (by omega)
        have q1 := hsx 1 (by omega)
        have q2 := hsx 2 (by omega)
        have q3 := hsx 3 (by omega)
        have q4 := hsx 4 (by omega)
        have q5 := hsx 5 (by omega)
        simp only [Stp.cell, Nat.add_zero] at p0 p1 p2 p3 p4 p5 q0 q1 q2 q3 q4 q5
        have hkl : (k : Int) < (l : Int) := by omega
        have lb : b < wr.heap.size := by have := bw.size; omega
        clear hcc hcx hsx bw
        have hrS : runS n f a k = stepOf n (runW n f a k) (a k) := rfl
        have hW : runW n f a (k + 1) = wordsOf n (runW n f a k) (a k) := rfl
        have hput := HP.out k hlt
        have HPUT := hide hput
        clear hput
        by_cases hin : 0 ≤ (a k).at_ ∧ (a k).at_ < n
        · obtain ⟨act, put, ok, he, ht⟩ := tells_in (f := runW n f a k) hin
          rw [hrS, he] at q0 q1 q2 q3 q4 q5
          simp only at q0 q1 q2 q3 q4 q5
          have hW2 : runW n f a (k + 1) = putF (runW n f a k) (a k).at_.toNat put := by rw [hW]; unfold wordsOf; rw [if_pos hin, he]
          obtain ⟨i, hi'⟩ : ∃ i : Nat, (a k).at_ = i := ⟨(a k).at_.toNat, by omega⟩
          rw [hi'] at p2 q2
          have hin' : i < n := by omega
          have htn : (a k).at_.toNat = i := by omega
          rw [htn] at q3 hW2 ht
          have hcr := hr.cell hin'
          have hfr := hr.frozen i
          have lg := hr.lt
          have HR := hide hr
          have HB := hide hb
          have HW := hide hW2
          clear hr hb hW2 hW hrS he hin
          generalize hv : runW n f a k i = had at *
          have hvb : 0 ≤ had ∧ had ≤ 18446744073709551615 := by rw [← hv]; exact HR.out.word hin'
          have HV := hide hv
          clear hv
          have hadd : IntKind.u64.wrap (had + (a k).put) = (had + (a k).put) % 18446744073709551616 := IntKind.wrap_u64 _
          rcases ht with _ | _ | _ | _ | hh | hh
          all_goals try subst hh
          all_goals try (have hbq : (put == (a k).had) = false := by simp [hh])
          all_goals as_aux_lemma =>
            go_wp2
            go_quiet (fail)
            go_wp2
            go_quiet (fail)
            go_wp2
            go_quiet (fail)
            go_wp2
            go_roundw
            case rel =>
              refine ⟨k + 1, by omega, by go_num, ?_, below_drewN (HB.out.alloc HB.out.size _) _ |>.setCell hg4 _⟩
              rw [HW.out]
              exact ((HR.out.alloc _).block rfl).set i _ (by first | exact hvb | exact HPUT.out | omega)
            case measure => simp [intOf]; omega
        · obtain ⟨act, ok, he, hok⟩ := tells_out (f := runW n f a k) hin
          rw [hrS, he] at q0 q1 q2 q3 q4 q5
          simp only at q0 q1 q2 q3 q4 q5
          have hW2 : runW n f a (k + 1) = runW n f a k := by rw [hW]; unfold wordsOf; rw [if_neg hin]
          have HR := hide hr
          have HB := hide hb
          have HW := hide hW2
          clear hr hb hW2 hW hrS he
          generalize hat : (a k).at_ = at_ at *
          have h5 : ok = !(act == 5) := hok
          clear hok
          by_cases ha : act = 5
          · subst ha
            have hk2 : ok = false := by simpa using h5
            subst hk2
            clear h5
            by_cases hneg : at_ < 0
            · as_aux_lemma =>
              go_wp2
              go_quiet (fail)
              go_wp2
              go_roundw
              case rel => exact ⟨k + 1, by omega, by go_num, by rw [HW.out]; exact (HR.out.alloc _).block rfl, below_drewN (HB.out.alloc HB.out.size _) _⟩
              case measure => simp [intOf]; omega
            · have hge : (n : Int) ≤ at_ := by omega
              as_aux_lemma =>
              go_wp2
              go_quiet (fail)
              go_wp2
              go_roundw
              case rel => exact ⟨k + 1, by omega, by go_num, by rw [HW.out]; exact (HR.out.alloc _).block rfl, below_drewN (HB.out.alloc HB.out.size _) _⟩
              case measure => simp [intOf]; omega
          · have hb5 : (act == 5) = false := by simp [ha]
            have hk2 : ok = true := by simpa [hb5] using h5
            subst hk2
            clear h5
            by_cases hneg : at_ < 0
            · as_aux_lemma =>
              go_wp2
              go_quiet (fail)
              go_wp2
              go_roundw
              case rel => exact ⟨k + 1, by omega, by go_num, by rw [HW.out]; exact (HR.out.alloc _).block rfl, below_drewN (HB.out.alloc HB.out.size _) _⟩
              case measure => simp [intOf]; omega
            · have hge : (n : Int) ≤ at_ := by omega
              as_aux_lemma =>
              go_wp2
              go_quiet (fail)
              go_wp2
              go_roundw
              case rel => exact ⟨k + 1, by omega, by go_num, by rw [HW.out]; exact (HR.out.alloc _).block rfl, below_drewN (HB.out.alloc HB.out.size _) _⟩
              case measure => simp [intOf]; omega
      · have hkl : k = l := by omega
        subst hkl
        have hr6 := HR3.out.below hb
        have HR6 := hide hr6
        have HR7 := hide hr
        have HB6 := hide (B3.out.trans (hb.mono hs3))
        clear hr6 hr hb
        go_wp2_with fail
        refine (same_words HR6.out.sees HR7.out.sees (fun _ _ => rfl) (by omega)).mono ?_
        rintro e w7 ⟨rfl, m, rfl⟩
        go_wp2
        go_ret
        exact ⟨rfl, below_drewN HB6.out _⟩

end Told
end Go.Proofs.Ytfggjnjndemipaa
