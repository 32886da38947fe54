/-
  The reference's Acts, where it refuses.
-/
import Derived.Test.YtdbiphibdaghkaaRActs
namespace Go.Proofs.Ytdbiphibdaghkaa
open Go.RowKit
set_option linter.unusedVariables false
set_option linter.unusedSimpArgs false
set_option linter.unnecessarySimpa false
set_option maxRecDepth 20000

variable {w : World} {ao aoh aos : Option Addr} {cap caph caps : Nat} {P : Par} {most : Int}

set_option maxHeartbeats 4000000 in
theorem racts_words (hn : 4096 < P.n) (hn63 : P.n ≤ 9223372036854775807) :
    Calls Try.prog 10 #[.slice ao P.n cap, .slice aoh P.nh caph, .slice aos P.ns caps, .int .i64 most] w fun e w' => e = .returned (errVal 1) ∧ Below w.heap.size w w' := by
  have hn' : (4096 : Int) < (P.n : Int) := by omega
  unfold errVal
  go_enter Try.func10, Try.ntmps10
  go_wp2_with fail
  go_light
  refine bodyPost_ret (v := errVal 1) ?_ rfl ⟨rfl, (Below.refl _ w).alloc (Nat.le_refl _) _⟩
  simp [results, Try.results10, go_sem, errVal]

set_option maxHeartbeats 4000000 in
theorem racts_fits (hn : P.n ≤ 4096) (er : Int) (her : er ≠ 0) (h : ∀ w' : World, Below w.heap.size w w' → Calls Try.prog 33 #[.slice aoh P.nh caph, .slice aos P.ns caps, .int .i64 most] w' fun e w'' => e = .returned (.int .i64 er) ∧ w'' = w') :
    Calls Try.prog 10 #[.slice ao P.n cap, .slice aoh P.nh caph, .slice aos P.ns caps, .int .i64 most] w fun e w' => e = .returned (errVal er) ∧ Below w.heap.size w w' := by
  have hn' : ¬ (4096 : Int) < (P.n : Int) := by omega
  have her' : ¬ er = 0 := her
  have HH := hide (h _ ((Below.refl _ w).alloc (Nat.le_refl _) (.cells #[.slice none 0 0, .slice none 0 0, .bool false] 28)))
  clear h
  clear her
  go_enter Try.func10, Try.ntmps10
  go_wp2_with (go_at_call 33; refine HH.out.mono ?_; rintro e w' ⟨rfl, hw⟩; obtain rfl := hw.symm)
  go_loopw [11, 12] (fun e i wr => ∃ k : Nat, k ≤ P.nh ∧ e = .int .i64 er ∧ i = .int .i64 k ∧ wr = (w.alloc (.cells #[.slice none 0 0, .slice none 0 0, .bool false] 28))) (fun _ _ _ => 0)
  case atStart => exact ⟨0, Nat.zero_le _, rfl, rfl, rfl⟩
  case round =>
    obtain ⟨k, hk, rfl, rfl, rfl⟩ := hrel
    by_cases hlt : k < P.nh
    · have hkn : (k : Int) < (P.nh : Int) := by omega
      go_wp2_with fail
      go_light
      refine bodyPost_ret (v := errVal er) ?_ rfl ⟨rfl, (Below.refl _ w).alloc (Nat.le_refl _) _⟩
      simp [results, Try.results10, go_sem, errVal]
    · have hkn : ¬ (k : Int) < (P.nh : Int) := by omega
      go_wp2_with fail
      go_light
      refine bodyPost_ret (v := errVal er) ?_ rfl ⟨rfl, (Below.refl _ w).alloc (Nat.le_refl _) _⟩
      simp [results, Try.results10, go_sem, errVal]

set_option maxHeartbeats 8000000 in
theorem racts_first (hn : P.n ≤ 4096) (SH : SeesH w w.heap.size aoh P.nh P.jn P.jb) (hl : ¬ LongHands P.nh P.jn) (hs : P.ns ≤ 65536) (hm0 : 0 ≤ most) (hm : most ≤ 65536) {er : Int} (he : FirstErr kAct P er) :
    Calls Try.prog 10 #[.slice ao P.n cap, .slice aoh P.nh caph, .slice aos P.ns caps, .int .i64 most] w fun e w' => e = .returned (errVal er) ∧ Below w.heap.size w w' := by
  obtain ⟨H, J, hH, hJ, hE, her, hb1, hb2⟩ := he
  have hnh : P.nh ≤ 8 := by rcases Nat.lt_or_ge 8 P.nh with l | l; exact absurd (.inl l) hl; exact l
  have hjn : ∀ i, i < P.nh → P.jn i ≤ 256 := fun i hi => by rcases Nat.lt_or_ge 256 (P.jn i) with l | l; exact absurd (.inr ⟨i, hi, l⟩) hl; exact l
  have hn' : ¬ (4096 : Int) < (P.n : Int) := by omega
  have her' : ¬ er = 0 := her
  have HE := hide hE
  have HB1 := hide hb1
  have HB2 := hide hb2
  have HSH := hide SH
  have HL := hide hl
  have HJN := hide hjn
  obtain ⟨W1, hW1⟩ : ∃ W1, w.alloc (.cells #[.slice none 0 0, .slice none 0 0, .bool false] 28) = W1 := ⟨_, rfl⟩
  have b1 : Below w.heap.size w W1 := by rw [← hW1]; exact (Below.refl _ w).alloc (Nat.le_refl _) _
  have sz1 : W1.heap.size = w.heap.size + 1 := by rw [← hW1]; simp
  have R1 := hide (show W1.rowIs w.heap.size 28 3 (lrow [.slice none 0 0, .slice none 0 0, .bool false]) from by rw [← hW1]; exact rowL_alloc w [.slice none 0 0, .slice none 0 0, .bool false] _ rfl)
  have BW := hide b1
  clear SH hl hjn hE hb1 hb2 b1
  go_enter Try.func10, Try.ntmps10
  go_wp2_with (go_at_call 33; refine (fits_fine (HSH.out.below BW.out (Nat.le_refl _)) HL.out hs most hm 0 (.inl ⟨hm0, rfl⟩)).mono ?_; rintro e w' ⟨rfl, hw⟩; obtain rfl := hw.symm)
  go_loopw [11, 12] (fun e i wr => ∃ k : Nat, k ≤ P.nh ∧ i = .int .i64 k ∧ Below W1.heap.size W1 wr ∧ ((e = .int .i64 0 ∧ k ≤ H) ∨ e = .int .i64 er)) (fun _ i _ => P.nh - (intOf i).toNat)
  case atStart => exact ⟨0, Nat.zero_le _, rfl, Below.refl _ _, .inl ⟨rfl, Nat.zero_le _⟩⟩
  case round =>
    obtain ⟨wo, rfl⟩ : ∃ x, x = wr := ⟨_, rfl⟩
    obtain ⟨k, hk, rfl, hb, hcase⟩ := hrel
    have HB := hide hb
    clear hb
    rcases hcase with ⟨rfl, hkH⟩ | rfl
    · have hlt : k < P.nh := by omega
      have hkn : (k : Int) < (P.nh : Int) := by omega
      obtain ⟨b, off, ao', cap', hao, hbl, hcc, hjj⟩ := (HSH.out.below (BW.out.trans (HB.out.mono (by omega))) (Nat.le_refl _)) k hlt
      subst hao
      have hjk := HJN.out k hlt
      have HJJ := hide hjj
      go_wp2_with fail
      go_loopw [11, 13] (fun e i wr => ∃ q : Nat, q ≤ P.jn k ∧ i = .int .i64 q ∧ Below W1.heap.size W1 wr ∧ ((e = .int .i64 0 ∧ (k = H → q ≤ J)) ∨ e = .int .i64 er)) (fun _ i _ => P.jn k - (intOf i).toNat)
      case atStart => exact ⟨0, Nat.zero_le _, rfl, HB.out, .inl ⟨rfl, fun _ => Nat.zero_le _⟩⟩
      case round =>
        obtain ⟨q, hq, rfl, hb2, hcase2⟩ := hrel
        have HB2' := hide hb2
        have hccr := (hb2.cell (p := ⟨b, off + k, none⟩) (by show b < _; omega)).trans ((HB.out.cell (p := ⟨b, off + k, none⟩) (by show b < _; omega)).symm.trans hcc)
        rcases hcase2 with ⟨rfl, hqJ⟩ | rfl
        · by_cases hlq : q < P.jn k
          · have hqn : (q : Int) < (P.jn k : Int) := by omega
            obtain ⟨b', off', hao', hbl', hc'⟩ := HJJ.out q hlq
            subst hao'
            have old : ∀ o, wo.cell? ⟨b', o, none⟩ = wr.cell? ⟨b', o, none⟩ := fun o => (HB.out.cell (p := ⟨b', o, none⟩) (by show b' < _; omega)).trans (hb2.cell (p := ⟨b', o, none⟩) (by show b' < _; omega)).symm
            have p0 := (old _).symm.trans (hc' 0 (by omega))
            have p1 := (old _).symm.trans (hc' 1 (by omega))
            have p2 := (old _).symm.trans (hc' 2 (by omega))
            have p3 := (old _).symm.trans (hc' 3 (by omega))
            have p4 := (old _).symm.trans (hc' 4 (by omega))
            simp only [Nat.add_zero, Jb.cell] at p0 p1 p2 p3 p4
            by_cases hhit : k = H ∧ q = J
            · obtain ⟨hk1, hq1⟩ := hhit
              have ST := hide (startA_err wr .zero k (P.jb k q) (by rw [hk1, hq1, HE.out]; exact her))
              rw [show kAct.err (P.jb k q) = er from by rw [hk1, hq1]; exact HE.out] at ST
              obtain ⟨jb, hjb⟩ : ∃ jb, P.jb k q = jb := ⟨_, rfl⟩
              rw [hjb] at p0 p1 p2 p3 p4 ST
              obtain ⟨jk, ja, jbb, jc, jh⟩ := jb
              simp only [Shp.val, Shp.zero, Jb.val, kept0] at ST
              simp only at p0 p1 p2 p3 p4
              clear old hc' hb2 hjb hk1 hq1
              go_wp2_with (go_at_call 34; refine ST.out.mono ?_; rintro e w3 ⟨rfl, hb3⟩)
              go_roundw
              case rel => exact ⟨q + 1, by omega, by go_num, HB2'.out.trans (hb3.mono HB2'.out.size), .inr rfl⟩
              case measure => simp [intOf]; omega
            · have hok : kAct.err (P.jb k q) = 0 := by
                by_cases hk1 : k = H
                · subst hk1; exact HB2.out q (by have := hqJ rfl; rcases Nat.lt_or_ge q J with l | l; exact l; exact absurd ⟨rfl, by omega⟩ hhit)
                · exact HB1.out k (by omega) q hlq
              have ST := hide (startA_ok wr .zero k (P.jb k q) hok)
              obtain ⟨jb, hjb⟩ : ∃ jb, P.jb k q = jb := ⟨_, rfl⟩
              rw [hjb] at p0 p1 p2 p3 p4 ST
              obtain ⟨jk, ja, jbb, jc, jh⟩ := jb
              simp only [Shp.val, Shp.zero, Jb.val, kept0] at ST
              simp only at p0 p1 p2 p3 p4
              clear old hc' hb2 hjb hok
              go_wp2_with (go_at_call 34; refine ST.out.mono ?_; rintro e w3 ⟨rfl, hb3⟩)
              go_roundw
              case rel => exact ⟨q + 1, by omega, by go_num, HB2'.out.trans (hb3.mono HB2'.out.size), .inl ⟨rfl, fun hk1 => by have := hqJ hk1; rcases Nat.lt_or_ge q J with l | l; omega; exact absurd ⟨hk1, by omega⟩ hhit⟩⟩
              case measure => simp [intOf]; omega
          · obtain rfl : q = P.jn k := by omega
            have hkH' : k ≠ H := fun hk1 => by have := hqJ hk1; rw [hk1] at this; omega
            go_wp2_with fail
            go_roundw
            case rel => exact ⟨k + 1, by omega, by go_num, HB2'.out, .inl ⟨rfl, by omega⟩⟩
            case measure => simp [intOf]; omega
        · by_cases hlq : q < P.jn k
          · have hqn : (q : Int) < (P.jn k : Int) := by omega
            go_wp2_with fail
            go_roundw
            case rel => exact ⟨k + 1, by omega, by go_num, HB2'.out, .inr rfl⟩
            case measure => simp [intOf]; omega
          · have hqn : ¬ (q : Int) < (P.jn k : Int) := by omega
            go_wp2_with fail
            go_roundw
            case rel => exact ⟨k + 1, by omega, by go_num, HB2'.out, .inr rfl⟩
            case measure => simp [intOf]; omega
    · have hb := HB.out
      have rT := R1.out.of_block (hb.block _ (by omega))
      have z0 : wo.cell? ⟨w.heap.size, 0, none⟩ = some (.slice none 0 0) := rT.cell (i := 0) (by omega)
      have z1 : wo.cell? ⟨w.heap.size, 1, none⟩ = some (.slice none 0 0) := rT.cell (i := 1) (by omega)
      have z2 : wo.cell? ⟨w.heap.size, 2, none⟩ = some (.bool false) := rT.cell (i := 2) (by omega)
      have y0 := rT.frozen 0
      have y1 := rT.frozen 1
      have y2 := rT.frozen 2
      have bb := BW.out.trans (hb.mono (by omega))
      have HBB := hide bb
      clear hb rT bb
      by_cases hlt : k < P.nh
      · have hkn : (k : Int) < (P.nh : Int) := by omega
        go_wp2_with fail
        go_light
        refine bodyPost_ret (v := errVal er) ?_ rfl ⟨rfl, ((HBB.out.setCell (Nat.le_refl _) _).setCell (Nat.le_refl _) _).setCell (Nat.le_refl _) _⟩
        simp [results, Try.results10, go_sem, errVal, *]
      · have hkn : ¬ (k : Int) < (P.nh : Int) := by omega
        go_wp2_with fail
        go_light
        refine bodyPost_ret (v := errVal er) ?_ rfl ⟨rfl, ((HBB.out.setCell (Nat.le_refl _) _).setCell (Nat.le_refl _) _).setCell (Nat.le_refl _) _⟩
        simp [results, Try.results10, go_sem, errVal, *]
end Go.Proofs.Ytdbiphibdaghkaa
