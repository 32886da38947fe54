/-
  ShapeNames: the law's own walk.
-/
import Derived.Test.YtfnfoebmpggmdaaDoorShapeK
import Derived.Test.YtfnfoebmpggmdaaDoorShapeS
import Derived.Test.YtfnfoebmpggmdaaDoorShapeT
import Derived.Test.YtfnfoebmpggmdaaDoorShapeL
namespace Go.Proofs.YtfnfoebmpggmdaaDoor
open Go.RowKit
set_option linter.unusedVariables false
set_option linter.unusedSimpArgs false
set_option linter.unnecessarySimpa false
set_option maxRecDepth 20000
namespace Shape

set_option maxHeartbeats 2000000 in
theorem named_ok {o s h r k : Nat} {s5 : Int} {a : Nat} (H : (⟨o, s, h, r, k⟩ : Sh).Ok) (ha : a < size ⟨o, s, h, r, k⟩) {Y : ByteArray} (hY : (⟨(nm ⟨o, s, h, r, k⟩ a).toArray⟩ : ByteArray) = Y) {w : World} (TB : Tab w) : Calls Tryd.prog 23 #[.agg #[.int .i64 (o : Int), .int .i64 (s : Int), .int .i64 (h : Int), .int .i64 (r : Int), .int .i64 (k : Int), .int .i64 s5], .int .i64 (a : Int), .int .i64 0, .string Y] w fun e w' => e = .returned (.bool true) ∧ Below w.heap.size w w' := by
  have NA := hide (fun (w1 : World) (T1 : Tab w1) => name_ok (s5 := s5) H ha T1)
  rw [hY] at NA
  have HT := hide TB
  clear H ha hY TB
  obtain ⟨W0, hW0, B0, K⟩ := box w (o : Int) (s : Int) (h : Int) (r : Int) (k : Int) s5
  have HB := hide B0
  obtain ⟨-, l0, x0, x1, x2, x3, x4, x5⟩ := K.out W0 (Below.refl _ _)
  clear B0
  go_enter Tryd.func23, Tryd.ntmps23
  go_wp2_with (go_at_call 13; refine (NA.out _ (HT.out.below HB.out HT.out.1)).mono ?_; rintro e w1 ⟨rfl, hb1⟩; have HB1 := hide hb1; clear hb1)
  go_ret
  exact ⟨rfl, (K.out _ HB1.out).1⟩

set_option maxHeartbeats 4000000 in
theorem names_wrong {s0 s1 s2 s3 s4 s5 : Int} (H : ¬ R5 s0 s1 s2 s3 s4) {w : World} (TB : Tab w) : Calls Tryd.prog 4 #[.agg #[.int .i64 s0, .int .i64 s1, .int .i64 s2, .int .i64 s3, .int .i64 s4, .int .i64 s5]] w fun e w' => e = .returned (.bool true) ∧ Below w.heap.size w w' := by
  have HH := hide H
  have HT := hide TB
  clear H TB
  obtain ⟨W0, hW0, B0, K⟩ := box w s0 s1 s2 s3 s4 s5
  have HB := hide B0
  obtain ⟨-, l0, x0, x1, x2, x3, x4, x5⟩ := K.out W0 (Below.refl _ _)
  clear B0
  have AW := hide (awake_ok (HT.out.below HB.out HT.out.1))
  go_enter Tryd.func4, Tryd.ntmps4
  go_wp2_with (first
    | (go_at_call 6; refine AW.out.mono ?_; rintro e w1 ⟨rfl, hb1⟩; have HB1 := hide hb1; clear hb1; obtain ⟨-, m1, y0, y1, y2, y3, y4, y5⟩ := K.out w1 HB1.out)
    | (go_at_call 7; refine (size_bad HH.out _).mono ?_; rintro e w2 ⟨rfl, hb2⟩; have HB2 := hide (HB1.out.trans (hb2.mono HB1.out.size)); clear hb2; obtain ⟨-, m2, u0, u1, u2, u3, u4, u5⟩ := K.out w2 HB2.out)
    | (go_at_call 21; refine (check_bad HH.out _).mono ?_; rintro e w3 ⟨rfl, hb3⟩; have HB3 := hide (HB2.out.trans (hb3.mono HB2.out.size)); clear hb3))
  go_ret
  exact ⟨rfl, (K.out _ HB3.out).1⟩

/-- The list of names, m of them told. -/
def cn (x : Sh) (m i : Nat) : Value := if i < m then .string ⟨(nm x i).toArray⟩ else .string ⟨#[]⟩
theorem infoS2 : (Tryd.prog.info? 9).map (fun i => (i.zero.map Value.cells, i.size, i.bytes)) = some (some #[.string ⟨#[]⟩], 1, 16) := by kernel_rfl
theorem cn_set {x : Sh} {m : Nat} {Y : ByteArray} (hY : (⟨(nm x m).toArray⟩ : ByteArray) = Y) : (fun j => if j = m then Value.string Y else cn x m j) = cn x (m + 1) := by
  funext j
  unfold cn
  by_cases e : j = m
  · subst e; rw [if_pos rfl, if_pos (by omega), hY]
  · rw [if_neg e]
    by_cases l : j < m
    · rw [if_pos l, if_pos (by omega)]
    · rw [if_neg l, if_neg (by omega)]

set_option maxHeartbeats 16000000 in
theorem names_right {o s h r k : Nat} {s5 : Int} (H : (⟨o, s, h, r, k⟩ : Sh).Ok) {w : World} (TB : Tab w) : Calls Tryd.prog 4 #[.agg #[.int .i64 (o : Int), .int .i64 (s : Int), .int .i64 (h : Int), .int .i64 (r : Int), .int .i64 (k : Int), .int .i64 s5]] w fun e w' => e = .returned (.bool true) ∧ Below w.heap.size w w' := by
  obtain ⟨b1, b2, b3, b4, b5, b6, b7, b8, b9, b10⟩ := bnds H
  have HT := hide TB
  have HOK := hide H
  have z600 := (sizes H).2.2.2.2
  have SZ := hide (fun w1 => size_ok (s5 := s5) H w1)
  obtain ⟨P, hP⟩ : ∃ P, h * r = P := ⟨_, rfl⟩
  obtain ⟨Q, hQ⟩ : ∃ Q, o * (3 + s) = Q := ⟨_, rfl⟩
  obtain ⟨z, hz⟩ : ∃ z, size ⟨o, s, h, r, k⟩ = z := ⟨_, rfl⟩
  have HSZ := hide (show z = 8 + h + P + k + Q ∧ bR ⟨o, s, h, r, k⟩ = 8 + h ∧ bK ⟨o, s, h, r, k⟩ = 8 + h + P ∧ bO ⟨o, s, h, r, k⟩ = 8 + h + P + k ∧ ow ⟨o, s, h, r, k⟩ = 3 + s from by rw [← hz, ← hP, ← hQ]; exact ⟨rfl, rfl, rfl, rfl, rfl⟩)
  have NMX := hide (fun (a : Nat) (ha : a < z) (Y : ByteArray) (hY : (⟨(nm ⟨o, s, h, r, k⟩ a).toArray⟩ : ByteArray) = Y) (w1 : World) (T1 : Tab w1) => named_ok (s5 := s5) H (by rw [hz]; exact ha) hY T1)
  have NAX := hide (fun (a : Nat) (ha : a < z) (w1 : World) (T1 : Tab w1) => name_ok (s5 := s5) H (show a < size ⟨o, s, h, r, k⟩ by rw [hz]; exact ha) T1)
  have INJ := hide (fun (a b : Nat) (ha : a < z) (hb : b < z) (hl : a < b) (e : nm ⟨o, s, h, r, k⟩ a = nm ⟨o, s, h, r, k⟩ b) => show False from by have := nm_inj H (by rw [hz]; exact ha) (by rw [hz]; exact hb) e; omega)
  have NE := hide (fun (a : Nat) (ha : a < z) => nm_ne H (show a < size ⟨o, s, h, r, k⟩ by rw [hz]; exact ha))
  have HP := hide hP
  have HQ := hide hQ
  rw [hP] at b6
  rw [hQ] at b7
  rw [hz] at SZ z600
  have hmk := run_make_z (P := Tryd.prog) 41 9 _ 1 16 Tryd.underlying41 infoS2 z (by omega) (by omega)
  simp only [Nat.mul_one] at hmk
  clear hP hQ H TB hz
  obtain ⟨W0, hW0, B0, K⟩ := box w (o : Int) (s : Int) (h : Int) (r : Int) (k : Int) s5
  have HB := hide B0
  obtain ⟨-, l0, x0, x1, x2, x3, x4, x5⟩ := K.out W0 (Below.refl _ _)
  clear B0
  have AW := hide (awake_ok (HT.out.below HB.out HT.out.1))
  go_enter Tryd.func4, Tryd.ntmps4
  go_wp2_with (first
    | (go_at_call 6; refine AW.out.mono ?_; rintro e w1 ⟨rfl, hb1⟩; have HB1 := hide hb1; clear hb1; obtain ⟨-, m1, y0, y1, y2, y3, y4, y5⟩ := K.out w1 HB1.out)
    | (go_at_call 7; refine (SZ.out _).mono ?_; rintro e w2 ⟨rfl, hb2⟩; have HB2 := hide (HB1.out.trans (hb2.mono HB1.out.size)); clear hb2))
  have R0 := hide (show (w2.alloc (.cells (madeCells #[.string ⟨#[]⟩] z) 9)).rowIs w2.heap.size 9 z (cn ⟨o, s, h, r, k⟩ 0) from by
    have e : cn ⟨o, s, h, r, k⟩ 0 = fun _ => Value.string ⟨#[]⟩ := by funext i; simp [cn]
    rw [e]; exact World.rowIs_made w2 (.string ⟨#[]⟩) z 9)
  clear hmk x0 x1 x2 x3 x4 x5 y0 y1 y2 y3 y4 y5 m1 l0
  go_loopw [6] (fun v6 wr => ∃ m : Nat, m ≤ z ∧ v6 = .int .i64 (m : Int) ∧ Hid (wr.rowIs w2.heap.size 9 z (cn ⟨o, s, h, r, k⟩ m)) ∧ Hid (Below w2.heap.size w2 wr)) (fun v6 _ => z - (intOf v6).toNat)
  case atStart => exact ⟨0, Nat.zero_le _, rfl, R0.out, (Below.refl _ w2).alloc (Nat.le_refl _) _⟩
  case round =>
    obtain ⟨m, hm, rfl, HR, HWr⟩ := hrel
    have HBW := hide (HB2.out.trans (HWr.out.mono HB2.out.size))
    obtain ⟨-, m1, y0, y1, y2, y3, y4, y5⟩ := K.out wr (HBW.out)
    clear R0
    by_cases hlt : m < z
    · have hlt' : (m : Int) < (z : Int) := by omega
      have NAm := hide (NAX.out m hlt)
      obtain ⟨Y, hY⟩ : ∃ Y : ByteArray, (⟨(nm ⟨o, s, h, r, k⟩ m).toArray⟩ : ByteArray) = Y := ⟨_, rfl⟩
      obtain ⟨c0, cs, hcs⟩ : ∃ c0 cs, nm ⟨o, s, h, r, k⟩ m = c0 :: cs := by
        cases hn : nm ⟨o, s, h, r, k⟩ m with
        | nil => exact absurd hn (NE.out m hlt)
        | cons c0 cs => exact ⟨c0, cs, rfl⟩
      have hy1 : Y.toList = c0 :: cs := by rw [← hY, ByteArray.toList_eq]; simpa using hcs
      have hy2 : Y.data.toList = c0 :: cs := by rw [← hY]; simpa using hcs
      have HCS := hide hcs
      clear hcs
      have HY := hide hY
      rw [hY] at NAm
      clear hY
      go_wp2_with (go_at_call 13; refine (NAm.out _ (HT.out.below (K.out wr HBW.out).1 HT.out.1)).mono ?_; rintro e w4 ⟨rfl, hb4⟩; have HB4 := hide hb4; clear hb4)
      have HR4 := hide (HR.out.of_block (HB4.out.block _ HR.out.lt))
      clear m1 y0 y1 y2 y3 y4 y5
      obtain ⟨W4, hW4⟩ : ∃ W4, W4 = w4 := ⟨_, rfl⟩
      subst hW4
      have lg := HR4.out.lt
      go_loopw [9] (fun v9 wr2 => ∃ q : Nat, q ≤ m ∧ v9 = .int .i64 (q : Int) ∧ wr2 = W4) (fun v9 _ => m - (intOf v9).toNat)
      case atStart => exact ⟨0, Nat.zero_le _, rfl, rfl⟩
      case round =>
        obtain ⟨q, hq, rfl, rfl⟩ := hrel
        by_cases hqm : q < m
        · have hqm' : (q : Int) < (m : Int) := by omega
          have hqz' : (q : Int) < (z : Int) := by omega
          obtain ⟨Z, hZ⟩ : ∃ Z : ByteArray, (⟨(nm ⟨o, s, h, r, k⟩ q).toArray⟩ : ByteArray) = Z := ⟨_, rfl⟩
          have cq : wr.cell? ⟨w2.heap.size, q, none⟩ = some (.string Z) := by
            have := HR4.out.cell (i := q) (by omega)
            rw [this]; unfold cn; rw [if_pos hqm, hZ]
          obtain ⟨ZL, hZL⟩ : ∃ ZL, nm ⟨o, s, h, r, k⟩ q = ZL := ⟨_, rfl⟩
          have hz1 : Z.toList = ZL := by rw [← hZ, ByteArray.toList_eq]; simpa using hZL
          have hz2 : Z.data.toList = ZL := by rw [← hZ]; simpa using hZL
          have zne2 : ¬ ZL = c0 :: cs := fun e => INJ.out q m (by omega) hlt hqm (by rw [hZL, e, HCS.out])
          have zne : (ZL == c0 :: cs) = false := by simpa using zne2
          clear hZL
          clear hZ
          go_wp2_with fail
          go_roundw
          case rel => exact ⟨q + 1, by omega, by go_num, (by first | trivial | rfl)⟩
          case measure => simp [intOf]; omega
        · have hqm' : ¬ ((q : Int) < (m : Int)) := by omega
          have cm := HR4.out.cell (i := m) hlt
          have fm := HR4.out.frozen m
          go_wp2_with fail
          go_roundw
          case rel => exact ⟨m + 1, by omega, by go_num, by have := HR4.out.set (i := m) (v := .string Y); rw [cn_set HY.out] at this; exact this, (HWr.out.trans (HB4.out.mono HWr.out.size)).setCell (Nat.le_refl _) _⟩
          case measure => simp [intOf]; omega
    · have hlt' : ¬ ((m : Int) < (z : Int)) := by omega
      obtain rfl : z = m := by omega
      obtain ⟨W5, hW5⟩ : ∃ W5, W5 = wr := ⟨_, rfl⟩
      subst hW5
      have HB5 := hide HBW.out
      have HRz := hide HR.out
      have HW25 := hide HWr.out
      clear HR HWr HBW NAX NE INJ m1 y0 y1 y2 y3 y4 y5 hm
      go_wp2_with fail
      go_loopw [10, 11] (fun v10 v11 wr => ∃ q cr : Nat, q ≤ h ∧ q * r = cr ∧ v11 = .int .i64 (q : Int) ∧ v10 = .int .i64 ((8 + q + cr : Nat) : Int) ∧ Hid (Below W5.heap.size W5 wr)) (fun _ v11 _ => h - (intOf v11).toNat)
      case atStart => exact ⟨0, 0, Nat.zero_le _, Nat.zero_mul _, rfl, rfl, Below.refl _ _⟩
      case round =>
        obtain ⟨q, cr, hq, hcr, rfl, rfl, HW⟩ := hrel
        obtain ⟨-, m1, y0, y1, y2, y3, y4, y5⟩ := K.out wr (HB5.out.trans (HW.out.mono HB5.out.size))
        have HCR := hide hcr
        by_cases hlt : q < h
        · have hlt' : (q : Int) < (h : Int) := by omega
          have cr2 : cr + r ≤ P := by
            have : (q + 1) * r ≤ h * r := Nat.mul_le_mul_right _ hlt
            rw [HP.out, Nat.add_mul, hcr] at this
            omega
          clear hcr
          have AK := hide (fun w1 => ack_ok (s5 := s5) (a := q) HOK.out HP.out hlt w1)
          obtain ⟨D0, hD0, sD0⟩ := txt (q) (by omega)
          have RD0 := hide (fun w1 => show Calls Tryd.prog 24 #[.int .i64 ((q : Int))] w1 fun e w' => e = .returned (.string D0) ∧ Below w1.heap.size w1 w' from by have := dec_ok (q) (by omega) w1; rw [hD0] at this; simpa using this)
          have NM0 := hide (fun (w1 : World) (T1 : Tab w1) => show Calls Tryd.prog 23 #[.agg #[.int .i64 (o : Int), .int .i64 (s : Int), .int .i64 (h : Int), .int .i64 (r : Int), .int .i64 (k : Int), .int .i64 s5], .int .i64 (8 + (q : Int)), .int .i64 0, .string ((⟨#[97, 99, 107, 32]⟩ : ByteArray) ++ D0)] w1 fun e w' => e = .returned (.bool true) ∧ Below w1.heap.size w1 w' from by have := NMX.out (8 + q) (by have := HSZ.out.1; omega) ((⟨#[97, 99, 107, 32]⟩ : ByteArray) ++ D0) (by rw [nm_ack (x := ⟨o, s, h, r, k⟩) hlt]; exact (cat1 [97, 99, 107, 32] hD0).symm) w1 T1; rw [show (8 + (q : Int) : Int) = ((8 + q : Nat) : Int) by omega]; exact this)
          have sz0 : ¬ (9223372036854775807 < 4 + D0.size) := by omega
          have sy0 : ¬ (9223372036854775807 < 5 + D0.size) := by omega
          clear hD0
          go_wp2_with (go_at_call 8; refine (AK.out _).mono ?_; rintro e c1 ⟨rfl, hb⟩; have HC1 := hide (HW.out.trans ((show Below wr.heap.size wr c1 from ⟨hb.os, hb.tape, hb.output, hb.size, hb.block⟩).mono HW.out.size)); clear hb; obtain ⟨-, n1, c1y0, c1y1, c1y2, c1y3, c1y4, c1y5⟩ := K.out c1 (HB5.out.trans (HC1.out.mono HB5.out.size)))
          go_region_held (fun w' => w'.cell? ⟨w.heap.size, 0, none⟩ = some (.int .i64 (o : Int)) ∧ w'.cell? ⟨w.heap.size, 1, none⟩ = some (.int .i64 (s : Int)) ∧ w'.cell? ⟨w.heap.size, 2, none⟩ = some (.int .i64 (h : Int)) ∧ w'.cell? ⟨w.heap.size, 3, none⟩ = some (.int .i64 (r : Int)) ∧ w'.cell? ⟨w.heap.size, 4, none⟩ = some (.int .i64 (k : Int)) ∧ w'.cell? ⟨w.heap.size, 5, none⟩ = some (.int .i64 s5)) (go_keep) (first | (have hg := HC2.out; clear hg; go_at_call 23; refine (NM0.out _ (HT.out.below (K.out c2 (HB5.out.trans (HC2.out.mono HB5.out.size))).1 HT.out.1)).mono ?_; rintro e c3 ⟨rfl, hb⟩; have HC3 := hide (HC2.out.trans ((show Below c2.heap.size c2 c3 from ⟨hb.os, hb.tape, hb.output, hb.size, hb.block⟩).mono HC2.out.size)); clear hb; obtain ⟨-, n3, c3y0, c3y1, c3y2, c3y3, c3y4, c3y5⟩ := K.out c3 (HB5.out.trans (HC3.out.mono HB5.out.size))) | (have hg := HC1.out; clear hg; go_at_call 24; refine (RD0.out _).mono ?_; rintro e c2 ⟨rfl, hb⟩; have HC2 := hide (HC1.out.trans ((show Below c1.heap.size c1 c2 from ⟨hb.os, hb.tape, hb.output, hb.size, hb.block⟩).mono HC1.out.size)); clear hb; obtain ⟨-, n2, c2y0, c2y1, c2y2, c2y3, c2y4, c2y5⟩ := K.out c2 (HB5.out.trans (HC2.out.mono HB5.out.size))))
          go_wp2_with fail
          clear m1 y0 y1 y2 y3 y4 y5 n1 c1y0 c1y1 c1y2 c1y3 c1y4 c1y5 n2 c2y0 c2y1 c2y2 c2y3 c2y4 c2y5 n3 c3y0 c3y1 c3y2 c3y3 c3y4 c3y5
          obtain ⟨W6, hW6⟩ : ∃ W6, W6 = c3 := ⟨_, rfl⟩
          subst hW6
          have HW6 := hide HC3.out
          clear HC1 HC2 HC3 AK RD0 NM0 sz0 sy0 sD0 HW
          go_loopw [10, 14] (fun v10 v14 wr => ∃ j : Nat, j ≤ r ∧ v14 = .int .i64 (j : Int) ∧ v10 = .int .i64 ((8 + q + cr + 1 + j : Nat) : Int) ∧ Hid (Below W5.heap.size W5 wr)) (fun _ v14 _ => r - (intOf v14).toNat)
          case atStart => exact ⟨0, Nat.zero_le _, rfl, by go_num, HW6.out⟩
          case round =>
            obtain ⟨j, hj, rfl, rfl, HW⟩ := hrel
            obtain ⟨-, m1, y0, y1, y2, y3, y4, y5⟩ := K.out wr (HB5.out.trans (HW.out.mono HB5.out.size))
            by_cases hjt : j < r
            · have hjt' : (j : Int) < (r : Int) := by omega
              have RO := hide (fun w1 => root_ok (s5 := s5) (a := q) (b := j) (p := cr) HOK.out HCR.out (by omega) hlt hjt w1)
              obtain ⟨D0, hD0, sD0⟩ := txt (q) (by omega)
              have RD0 := hide (fun w1 => show Calls Tryd.prog 24 #[.int .i64 ((q : Int))] w1 fun e w' => e = .returned (.string D0) ∧ Below w1.heap.size w1 w' from by have := dec_ok (q) (by omega) w1; rw [hD0] at this; simpa using this)
              obtain ⟨D1, hD1, sD1⟩ := txt (j) (by omega)
              have RD1 := hide (fun w1 => show Calls Tryd.prog 24 #[.int .i64 ((j : Int))] w1 fun e w' => e = .returned (.string D1) ∧ Below w1.heap.size w1 w' from by have := dec_ok (j) (by omega) w1; rw [hD1] at this; simpa using this)
              have NM0 := hide (fun (w1 : World) (T1 : Tab w1) => show Calls Tryd.prog 23 #[.agg #[.int .i64 (o : Int), .int .i64 (s : Int), .int .i64 (h : Int), .int .i64 (r : Int), .int .i64 (k : Int), .int .i64 s5], .int .i64 (8 + (h : Int) + (cr : Int) + (j : Int)), .int .i64 0, .string ((⟨#[114, 111, 111, 116, 32]⟩ : ByteArray) ++ D0 ++ ⟨#[32]⟩ ++ D1)] w1 fun e w' => e = .returned (.bool true) ∧ Below w1.heap.size w1 w' from by have := NMX.out (8 + h + cr + j) (by have := HSZ.out.1; omega) ((⟨#[114, 111, 111, 116, 32]⟩ : ByteArray) ++ D0 ++ ⟨#[32]⟩ ++ D1) (by have e := nm_root (x := ⟨o, s, h, r, k⟩) (i := q) (j := j) hlt hjt; rw [HSZ.out.2.1, show q * (⟨o, s, h, r, k⟩ : Sh).r = cr from HCR.out] at e; rw [e]; exact (cat2 [114, 111, 111, 116, 32] hD0 hD1).symm) w1 T1; rw [show (8 + (h : Int) + (cr : Int) + (j : Int) : Int) = ((8 + h + cr + j : Nat) : Int) by omega]; exact this)
              have sz0 : ¬ (9223372036854775807 < 4 + D0.size) := by omega
              have sy0 : ¬ (9223372036854775807 < 5 + D0.size) := by omega
              have sx0 : ¬ (9223372036854775807 < 5 + D0.size + 1) := by omega
              have sx1 : ¬ (9223372036854775807 < 5 + D0.size + 1 + D1.size) := by omega
              clear hD0 hD1
              go_wp2_with (go_at_call 9; refine (RO.out _).mono ?_; rintro e c1 ⟨rfl, hb⟩; have HC1 := hide (HW.out.trans ((show Below wr.heap.size wr c1 from ⟨hb.os, hb.tape, hb.output, hb.size, hb.block⟩).mono HW.out.size)); clear hb; obtain ⟨-, n1, c1y0, c1y1, c1y2, c1y3, c1y4, c1y5⟩ := K.out c1 (HB5.out.trans (HC1.out.mono HB5.out.size)))
              go_region_held (fun w' => w'.cell? ⟨w.heap.size, 0, none⟩ = some (.int .i64 (o : Int)) ∧ w'.cell? ⟨w.heap.size, 1, none⟩ = some (.int .i64 (s : Int)) ∧ w'.cell? ⟨w.heap.size, 2, none⟩ = some (.int .i64 (h : Int)) ∧ w'.cell? ⟨w.heap.size, 3, none⟩ = some (.int .i64 (r : Int)) ∧ w'.cell? ⟨w.heap.size, 4, none⟩ = some (.int .i64 (k : Int)) ∧ w'.cell? ⟨w.heap.size, 5, none⟩ = some (.int .i64 s5)) (go_keep) (first | (have hg := HC3.out; clear hg; go_at_call 23; refine (NM0.out _ (HT.out.below (K.out c3 (HB5.out.trans (HC3.out.mono HB5.out.size))).1 HT.out.1)).mono ?_; rintro e c4 ⟨rfl, hb⟩; have HC4 := hide (HC3.out.trans ((show Below c3.heap.size c3 c4 from ⟨hb.os, hb.tape, hb.output, hb.size, hb.block⟩).mono HC3.out.size)); clear hb; obtain ⟨-, n4, c4y0, c4y1, c4y2, c4y3, c4y4, c4y5⟩ := K.out c4 (HB5.out.trans (HC4.out.mono HB5.out.size))) | (have hg := HC2.out; clear hg; go_at_call_of 24 (j : Int); refine (RD1.out _).mono ?_; rintro e c3 ⟨rfl, hb⟩; have HC3 := hide (HC2.out.trans ((show Below c2.heap.size c2 c3 from ⟨hb.os, hb.tape, hb.output, hb.size, hb.block⟩).mono HC2.out.size)); clear hb; obtain ⟨-, n3, c3y0, c3y1, c3y2, c3y3, c3y4, c3y5⟩ := K.out c3 (HB5.out.trans (HC3.out.mono HB5.out.size))) | (have hg := HC2.out; clear hg; go_at_call 24; refine (RD0.out _).mono ?_; rintro e c3 ⟨rfl, hb⟩; have HC3 := hide (HC2.out.trans ((show Below c2.heap.size c2 c3 from ⟨hb.os, hb.tape, hb.output, hb.size, hb.block⟩).mono HC2.out.size)); clear hb; obtain ⟨-, n3, c3y0, c3y1, c3y2, c3y3, c3y4, c3y5⟩ := K.out c3 (HB5.out.trans (HC3.out.mono HB5.out.size))) | (go_at_call_of 24 (j : Int); refine (RD1.out _).mono ?_; rintro e c2 ⟨rfl, hb⟩; have HC2 := hide (HC1.out.trans ((show Below c1.heap.size c1 c2 from ⟨hb.os, hb.tape, hb.output, hb.size, hb.block⟩).mono HC1.out.size)); clear hb; obtain ⟨-, n2, c2y0, c2y1, c2y2, c2y3, c2y4, c2y5⟩ := K.out c2 (HB5.out.trans (HC2.out.mono HB5.out.size))) | (go_at_call 24; refine (RD0.out _).mono ?_; rintro e c2 ⟨rfl, hb⟩; have HC2 := hide (HC1.out.trans ((show Below c1.heap.size c1 c2 from ⟨hb.os, hb.tape, hb.output, hb.size, hb.block⟩).mono HC1.out.size)); clear hb; obtain ⟨-, n2, c2y0, c2y1, c2y2, c2y3, c2y4, c2y5⟩ := K.out c2 (HB5.out.trans (HC2.out.mono HB5.out.size))))
              all_goals go_wp2_with fail
              all_goals (
                go_roundw
                case rel => exact ⟨j + 1, by omega, by go_num, by go_num, HC4.out⟩
                case measure => simp [intOf]; omega)
            · have hjt' : ¬ ((j : Int) < (r : Int)) := by omega
              obtain rfl : r = j := by omega
              go_wp2_with fail
              go_roundw
              case rel => exact ⟨q + 1, cr + r, by omega, by rw [Nat.add_mul, HCR.out, Nat.one_mul], by go_num, by congr 1; omega, HW.out⟩
              case measure => simp [intOf]; omega
        · have hlt' : ¬ ((q : Int) < (h : Int)) := by omega
          obtain rfl : h = q := by omega
          obtain rfl : P = cr := HP.out.symm.trans hcr
          obtain ⟨W7, hW7⟩ : ∃ W7, W7 = wr := ⟨_, rfl⟩
          subst hW7
          have HW7 := hide HW.out
          clear HW hcr HCR
          go_wp2_with fail
          clear m1 y0 y1 y2 y3 y4 y5
          go_loopw [10, 15] (fun v10 v15 wr => ∃ q : Nat, q ≤ k ∧ v15 = .int .i64 (q : Int) ∧ v10 = .int .i64 ((8 + h + P + q : Nat) : Int) ∧ Hid (Below W5.heap.size W5 wr)) (fun _ v15 _ => k - (intOf v15).toNat)
          case atStart => exact ⟨0, Nat.zero_le _, rfl, by first | rfl | go_num, HW7.out⟩
          case round =>
            obtain ⟨q, hq2, rfl, rfl, HW⟩ := hrel
            obtain ⟨-, m1, y0, y1, y2, y3, y4, y5⟩ := K.out wr (HB5.out.trans (HW.out.mono HB5.out.size))
            by_cases hkt : q < k
            · have hkt' : (q : Int) < (k : Int) := by omega
              have WK := hide (fun w1 => weak_ok (s5 := s5) (a := q) (p := P) HOK.out HP.out hkt w1)
              obtain ⟨D0, hD0, sD0⟩ := txt (q) (by omega)
              have RD0 := hide (fun w1 => show Calls Tryd.prog 24 #[.int .i64 ((q : Int))] w1 fun e w' => e = .returned (.string D0) ∧ Below w1.heap.size w1 w' from by have := dec_ok (q) (by omega) w1; rw [hD0] at this; simpa using this)
              have NM0 := hide (fun (w1 : World) (T1 : Tab w1) => show Calls Tryd.prog 23 #[.agg #[.int .i64 (o : Int), .int .i64 (s : Int), .int .i64 (h : Int), .int .i64 (r : Int), .int .i64 (k : Int), .int .i64 s5], .int .i64 (8 + (h : Int) + (P : Int) + (q : Int)), .int .i64 0, .string ((⟨#[119, 101, 97, 107, 32]⟩ : ByteArray) ++ D0)] w1 fun e w' => e = .returned (.bool true) ∧ Below w1.heap.size w1 w' from by have := NMX.out (8 + h + P + q) (by have := HSZ.out.1; omega) ((⟨#[119, 101, 97, 107, 32]⟩ : ByteArray) ++ D0) (by have e := nm_weak (x := ⟨o, s, h, r, k⟩) (i := q) hkt; rw [HSZ.out.2.2.1] at e; rw [e]; exact (cat1 [119, 101, 97, 107, 32] hD0).symm) w1 T1; rw [show (8 + (h : Int) + (P : Int) + (q : Int) : Int) = ((8 + h + P + q : Nat) : Int) by omega]; exact this)
              have sz0 : ¬ (9223372036854775807 < 4 + D0.size) := by omega
              have sy0 : ¬ (9223372036854775807 < 5 + D0.size) := by omega
              clear hD0
              go_wp2_with (go_at_call 10; refine (WK.out _).mono ?_; rintro e c1 ⟨rfl, hb⟩; have HC1 := hide (HW.out.trans ((show Below wr.heap.size wr c1 from ⟨hb.os, hb.tape, hb.output, hb.size, hb.block⟩).mono HW.out.size)); clear hb; obtain ⟨-, n1, c1y0, c1y1, c1y2, c1y3, c1y4, c1y5⟩ := K.out c1 (HB5.out.trans (HC1.out.mono HB5.out.size)))
              go_region_held (fun w' => w'.cell? ⟨w.heap.size, 0, none⟩ = some (.int .i64 (o : Int)) ∧ w'.cell? ⟨w.heap.size, 1, none⟩ = some (.int .i64 (s : Int)) ∧ w'.cell? ⟨w.heap.size, 2, none⟩ = some (.int .i64 (h : Int)) ∧ w'.cell? ⟨w.heap.size, 3, none⟩ = some (.int .i64 (r : Int)) ∧ w'.cell? ⟨w.heap.size, 4, none⟩ = some (.int .i64 (k : Int)) ∧ w'.cell? ⟨w.heap.size, 5, none⟩ = some (.int .i64 s5)) (go_keep) (first | (have hg := HC2.out; clear hg; go_at_call 23; refine (NM0.out _ (HT.out.below (K.out c2 (HB5.out.trans (HC2.out.mono HB5.out.size))).1 HT.out.1)).mono ?_; rintro e c3 ⟨rfl, hb⟩; have HC3 := hide (HC2.out.trans ((show Below c2.heap.size c2 c3 from ⟨hb.os, hb.tape, hb.output, hb.size, hb.block⟩).mono HC2.out.size)); clear hb; obtain ⟨-, n3, c3y0, c3y1, c3y2, c3y3, c3y4, c3y5⟩ := K.out c3 (HB5.out.trans (HC3.out.mono HB5.out.size))) | (have hg := HC1.out; clear hg; go_at_call 24; refine (RD0.out _).mono ?_; rintro e c2 ⟨rfl, hb⟩; have HC2 := hide (HC1.out.trans ((show Below c1.heap.size c1 c2 from ⟨hb.os, hb.tape, hb.output, hb.size, hb.block⟩).mono HC1.out.size)); clear hb; obtain ⟨-, n2, c2y0, c2y1, c2y2, c2y3, c2y4, c2y5⟩ := K.out c2 (HB5.out.trans (HC2.out.mono HB5.out.size))))
              go_wp2_with fail
              go_roundw
              case rel => exact ⟨q + 1, by omega, by go_num, by go_num, HC3.out⟩
              case measure => simp [intOf]; omega
            · have hkt' : ¬ ((q : Int) < (k : Int)) := by omega
              obtain rfl : k = q := by omega
              obtain ⟨W8, hW8⟩ : ∃ W8, W8 = wr := ⟨_, rfl⟩
              subst hW8
              have HW8 := hide HW.out
              clear HW
              go_wp2_with fail
              clear m1 y0 y1 y2 y3 y4 y5
              go_loopw [10, 18] (fun v10 v18 wr => ∃ q qs : Nat, q ≤ o ∧ q * (3 + s) = qs ∧ v18 = .int .i64 ((q : Int) + 1) ∧ v10 = .int .i64 ((8 + h + P + k + qs : Nat) : Int) ∧ Hid (Below W5.heap.size W5 wr)) (fun _ v18 _ => o + 1 - (intOf v18).toNat)
              case atStart => exact ⟨0, 0, Nat.zero_le _, Nat.zero_mul _, rfl, by first | rfl | go_num, HW8.out⟩
              case round =>
                obtain ⟨q, qs, hq3, hqs, rfl, rfl, HW⟩ := hrel
                obtain ⟨-, m1, y0, y1, y2, y3, y4, y5⟩ := K.out wr (HB5.out.trans (HW.out.mono HB5.out.size))
                have HQS := hide hqs
                by_cases hot : q < o
                · have hot' : (q : Int) + 1 ≤ (o : Int) := by omega
                  have qs2 : qs + (3 + s) ≤ Q := by
                    have : (q + 1) * (3 + s) ≤ o * (3 + s) := Nat.mul_le_mul_right _ hot
                    rw [HQ.out, Nat.add_mul, hqs] at this
                    omega
                  clear hqs
                  have NB := hide (show bO ⟨o, s, h, r, k⟩ + q * ow ⟨o, s, h, r, k⟩ = 8 + h + P + k + qs from by rw [HSZ.out.2.2.2.1, HSZ.out.2.2.2.2, HQS.out])
                  have OB := hide (fun w1 => show Calls Tryd.prog 11 #[.agg #[.int .i64 (o : Int), .int .i64 (s : Int), .int .i64 (h : Int), .int .i64 (r : Int), .int .i64 (k : Int), .int .i64 s5], .int .i64 ((q : Int) + 1)] w1 fun e w' => e = .returned (.tuple #[.int .i64 (8 + (h : Int) + (P : Int) + (k : Int) + (qs : Int)), .int .i64 0]) ∧ Below w1.heap.size w1 w' from by
                    have := object_ok (s5 := s5) (a := q + 1) (p := P) (q := qs) HOK.out HP.out (by omega) (by omega) (by rw [Nat.add_sub_cancel]; exact HQS.out) (by omega) w1
                    simpa using this)
                  obtain ⟨D0, hD0, sD0⟩ := txt (q + 1) (by omega)
                  have RD0 := hide (fun w1 => show Calls Tryd.prog 24 #[.int .i64 ((q : Int) + 1)] w1 fun e w' => e = .returned (.string D0) ∧ Below w1.heap.size w1 w' from by have := dec_ok (q + 1) (by omega) w1; rw [hD0] at this; simpa using this)
                  have NM0 := hide (fun (w1 : World) (T1 : Tab w1) => show Calls Tryd.prog 23 #[.agg #[.int .i64 (o : Int), .int .i64 (s : Int), .int .i64 (h : Int), .int .i64 (r : Int), .int .i64 (k : Int), .int .i64 s5], .int .i64 (8 + (h : Int) + (P : Int) + (k : Int) + (qs : Int)), .int .i64 0, .string ((⟨#[104, 101, 97, 100, 32]⟩ : ByteArray) ++ D0)] w1 fun e w' => e = .returned (.bool true) ∧ Below w1.heap.size w1 w' from by have := NMX.out (8 + h + P + k + qs) (by have := HSZ.out.1; omega) ((⟨#[104, 101, 97, 100, 32]⟩ : ByteArray) ++ D0) (by have e := nm_head (x := ⟨o, s, h, r, k⟩) q; rw [NB.out] at e; rw [e]; exact (cat1 [104, 101, 97, 100, 32] hD0).symm) w1 T1; rw [show (8 + (h : Int) + (P : Int) + (k : Int) + (qs : Int) : Int) = ((8 + h + P + k + qs : Nat) : Int) by omega]; exact this)
                  have NM1 := hide (fun (w1 : World) (T1 : Tab w1) => show Calls Tryd.prog 23 #[.agg #[.int .i64 (o : Int), .int .i64 (s : Int), .int .i64 (h : Int), .int .i64 (r : Int), .int .i64 (k : Int), .int .i64 s5], .int .i64 (8 + (h : Int) + (P : Int) + (k : Int) + (qs : Int) + 1), .int .i64 0, .string ((⟨#[108, 105, 110, 107, 32]⟩ : ByteArray) ++ D0)] w1 fun e w' => e = .returned (.bool true) ∧ Below w1.heap.size w1 w' from by have := NMX.out (8 + h + P + k + qs + 1) (by have := HSZ.out.1; omega) ((⟨#[108, 105, 110, 107, 32]⟩ : ByteArray) ++ D0) (by have e := nm_link (x := ⟨o, s, h, r, k⟩) q; rw [NB.out] at e; rw [e]; exact (cat1 [108, 105, 110, 107, 32] hD0).symm) w1 T1; rw [show (8 + (h : Int) + (P : Int) + (k : Int) + (qs : Int) + 1 : Int) = ((8 + h + P + k + qs + 1 : Nat) : Int) by omega]; exact this)
                  have NM2 := hide (fun (w1 : World) (T1 : Tab w1) => show Calls Tryd.prog 23 #[.agg #[.int .i64 (o : Int), .int .i64 (s : Int), .int .i64 (h : Int), .int .i64 (r : Int), .int .i64 (k : Int), .int .i64 s5], .int .i64 (8 + (h : Int) + (P : Int) + (k : Int) + (qs : Int) + 2), .int .i64 0, .string ((⟨#[110, 101, 120, 116, 32]⟩ : ByteArray) ++ D0)] w1 fun e w' => e = .returned (.bool true) ∧ Below w1.heap.size w1 w' from by have := NMX.out (8 + h + P + k + qs + 2) (by have := HSZ.out.1; omega) ((⟨#[110, 101, 120, 116, 32]⟩ : ByteArray) ++ D0) (by have e := nm_next (x := ⟨o, s, h, r, k⟩) q; rw [NB.out] at e; rw [e]; exact (cat1 [110, 101, 120, 116, 32] hD0).symm) w1 T1; rw [show (8 + (h : Int) + (P : Int) + (k : Int) + (qs : Int) + 2 : Int) = ((8 + h + P + k + qs + 2 : Nat) : Int) by omega]; exact this)
                  have sz0 : ¬ (9223372036854775807 < 4 + D0.size) := by omega
                  have sy0 : ¬ (9223372036854775807 < 5 + D0.size) := by omega
                  have wa1 : IntKind.i64.wrap (8 + (h : Int) + (P : Int) + (k : Int) + (qs : Int) + 1) = 8 + (h : Int) + (P : Int) + (k : Int) + (qs : Int) + 1 := wI (by omega) (by omega)
                  have wa2 : IntKind.i64.wrap (8 + (h : Int) + (P : Int) + (k : Int) + (qs : Int) + 2) = 8 + (h : Int) + (P : Int) + (k : Int) + (qs : Int) + 2 := wI (by omega) (by omega)
                  clear hD0
                  go_wp2_with (go_at_call 11; refine (OB.out _).mono ?_; rintro e c1 ⟨rfl, hb⟩; have HC1 := hide (HW.out.trans ((show Below wr.heap.size wr c1 from ⟨hb.os, hb.tape, hb.output, hb.size, hb.block⟩).mono HW.out.size)); clear hb; obtain ⟨-, n1, c1y0, c1y1, c1y2, c1y3, c1y4, c1y5⟩ := K.out c1 (HB5.out.trans (HC1.out.mono HB5.out.size)))
                  go_region_held (fun w' => w'.cell? ⟨w.heap.size, 0, none⟩ = some (.int .i64 (o : Int)) ∧ w'.cell? ⟨w.heap.size, 1, none⟩ = some (.int .i64 (s : Int)) ∧ w'.cell? ⟨w.heap.size, 2, none⟩ = some (.int .i64 (h : Int)) ∧ w'.cell? ⟨w.heap.size, 3, none⟩ = some (.int .i64 (r : Int)) ∧ w'.cell? ⟨w.heap.size, 4, none⟩ = some (.int .i64 (k : Int)) ∧ w'.cell? ⟨w.heap.size, 5, none⟩ = some (.int .i64 s5)) (go_keep) (first | (have hg := HC6.out; clear hg; go_at_call 23; refine (NM2.out _ (HT.out.below (K.out c6 (HB5.out.trans (HC6.out.mono HB5.out.size))).1 HT.out.1)).mono ?_; rintro e c7 ⟨rfl, hb⟩; have HC7 := hide (HC6.out.trans ((show Below c6.heap.size c6 c7 from ⟨hb.os, hb.tape, hb.output, hb.size, hb.block⟩).mono HC6.out.size)); clear hb; obtain ⟨-, n7, c7y0, c7y1, c7y2, c7y3, c7y4, c7y5⟩ := K.out c7 (HB5.out.trans (HC7.out.mono HB5.out.size))) | (have hg := HC5.out; clear hg; go_at_call 24; refine (RD0.out _).mono ?_; rintro e c6 ⟨rfl, hb⟩; have HC6 := hide (HC5.out.trans ((show Below c5.heap.size c5 c6 from ⟨hb.os, hb.tape, hb.output, hb.size, hb.block⟩).mono HC5.out.size)); clear hb; obtain ⟨-, n6, c6y0, c6y1, c6y2, c6y3, c6y4, c6y5⟩ := K.out c6 (HB5.out.trans (HC6.out.mono HB5.out.size))) | (have hg := HC4.out; clear hg; go_at_call 23; refine (NM1.out _ (HT.out.below (K.out c4 (HB5.out.trans (HC4.out.mono HB5.out.size))).1 HT.out.1)).mono ?_; rintro e c5 ⟨rfl, hb⟩; have HC5 := hide (HC4.out.trans ((show Below c4.heap.size c4 c5 from ⟨hb.os, hb.tape, hb.output, hb.size, hb.block⟩).mono HC4.out.size)); clear hb; obtain ⟨-, n5, c5y0, c5y1, c5y2, c5y3, c5y4, c5y5⟩ := K.out c5 (HB5.out.trans (HC5.out.mono HB5.out.size))) | (have hg := HC3.out; clear hg; go_at_call 24; refine (RD0.out _).mono ?_; rintro e c4 ⟨rfl, hb⟩; have HC4 := hide (HC3.out.trans ((show Below c3.heap.size c3 c4 from ⟨hb.os, hb.tape, hb.output, hb.size, hb.block⟩).mono HC3.out.size)); clear hb; obtain ⟨-, n4, c4y0, c4y1, c4y2, c4y3, c4y4, c4y5⟩ := K.out c4 (HB5.out.trans (HC4.out.mono HB5.out.size))) | (have hg := HC2.out; clear hg; go_at_call 23; refine (NM0.out _ (HT.out.below (K.out c2 (HB5.out.trans (HC2.out.mono HB5.out.size))).1 HT.out.1)).mono ?_; rintro e c3 ⟨rfl, hb⟩; have HC3 := hide (HC2.out.trans ((show Below c2.heap.size c2 c3 from ⟨hb.os, hb.tape, hb.output, hb.size, hb.block⟩).mono HC2.out.size)); clear hb; obtain ⟨-, n3, c3y0, c3y1, c3y2, c3y3, c3y4, c3y5⟩ := K.out c3 (HB5.out.trans (HC3.out.mono HB5.out.size))) | (have hg := HC1.out; clear hg; go_at_call 24; refine (RD0.out _).mono ?_; rintro e c2 ⟨rfl, hb⟩; have HC2 := hide (HC1.out.trans ((show Below c1.heap.size c1 c2 from ⟨hb.os, hb.tape, hb.output, hb.size, hb.block⟩).mono HC1.out.size)); clear hb; obtain ⟨-, n2, c2y0, c2y1, c2y2, c2y3, c2y4, c2y5⟩ := K.out c2 (HB5.out.trans (HC2.out.mono HB5.out.size))))
                  clear wa1 wa2
                  go_wp2_with fail
                  clear m1 y0 y1 y2 y3 y4 y5 n1 c1y0 c1y1 c1y2 c1y3 c1y4 c1y5 n2 c2y0 c2y1 c2y2 c2y3 c2y4 c2y5 n3 c3y0 c3y1 c3y2 c3y3 c3y4 c3y5 n4 c4y0 c4y1 c4y2 c4y3 c4y4 c4y5 n5 c5y0 c5y1 c5y2 c5y3 c5y4 c5y5 n6 c6y0 c6y1 c6y2 c6y3 c6y4 c6y5 n7 c7y0 c7y1 c7y2 c7y3 c7y4 c7y5
                  obtain ⟨W9, hW9⟩ : ∃ W9, W9 = c7 := ⟨_, rfl⟩
                  subst hW9
                  have HW9 := hide HC7.out
                  clear HC1 HC2 HC3 HC4 HC5 HC6 HC7 OB RD0 NM0 NM1 NM2 sz0 sy0 sD0 HW
                  go_loopw [10, 21] (fun v10 v21 wr => ∃ j : Nat, j ≤ s ∧ v21 = .int .i64 (j : Int) ∧ v10 = .int .i64 ((8 + h + P + k + qs + 3 + j : Nat) : Int) ∧ Hid (Below W5.heap.size W5 wr)) (fun _ v21 _ => s - (intOf v21).toNat)
                  case atStart => exact ⟨0, Nat.zero_le _, rfl, by go_num, HW9.out⟩
                  case round =>
                    obtain ⟨j, hj, rfl, rfl, HW⟩ := hrel
                    obtain ⟨-, m1, y0, y1, y2, y3, y4, y5⟩ := K.out wr (HB5.out.trans (HW.out.mono HB5.out.size))
                    by_cases hjt : j < s
                    · have hjt' : (j : Int) < (s : Int) := by omega
                      have SL := hide (fun w1 => show Calls Tryd.prog 12 #[.agg #[.int .i64 (o : Int), .int .i64 (s : Int), .int .i64 (h : Int), .int .i64 (r : Int), .int .i64 (k : Int), .int .i64 s5], .int .i64 ((q : Int) + 1), .int .i64 (j : Int)] w1 fun e w' => e = .returned (.tuple #[.int .i64 (8 + (h : Int) + (P : Int) + (k : Int) + (qs : Int) + 3 + (j : Int)), .int .i64 0]) ∧ Below w1.heap.size w1 w' from by
                        have := slot_ok (s5 := s5) (a := q + 1) (b := j) (p := P) (q := qs) HOK.out HP.out (by omega) (by omega) (by rw [Nat.add_sub_cancel]; exact HQS.out) (by omega) hjt w1
                        simpa using this)
                      obtain ⟨D0, hD0, sD0⟩ := txt (q + 1) (by omega)
                      have RD0 := hide (fun w1 => show Calls Tryd.prog 24 #[.int .i64 ((q : Int) + 1)] w1 fun e w' => e = .returned (.string D0) ∧ Below w1.heap.size w1 w' from by have := dec_ok (q + 1) (by omega) w1; rw [hD0] at this; simpa using this)
                      obtain ⟨D1, hD1, sD1⟩ := txt (j) (by omega)
                      have RD1 := hide (fun w1 => show Calls Tryd.prog 24 #[.int .i64 ((j : Int))] w1 fun e w' => e = .returned (.string D1) ∧ Below w1.heap.size w1 w' from by have := dec_ok (j) (by omega) w1; rw [hD1] at this; simpa using this)
                      have NM0 := hide (fun (w1 : World) (T1 : Tab w1) => show Calls Tryd.prog 23 #[.agg #[.int .i64 (o : Int), .int .i64 (s : Int), .int .i64 (h : Int), .int .i64 (r : Int), .int .i64 (k : Int), .int .i64 s5], .int .i64 (8 + (h : Int) + (P : Int) + (k : Int) + (qs : Int) + 3 + (j : Int)), .int .i64 0, .string ((⟨#[115, 108, 111, 116, 32]⟩ : ByteArray) ++ D0 ++ ⟨#[32]⟩ ++ D1)] w1 fun e w' => e = .returned (.bool true) ∧ Below w1.heap.size w1 w' from by have := NMX.out (8 + h + P + k + qs + 3 + j) (by have := HSZ.out.1; omega) ((⟨#[115, 108, 111, 116, 32]⟩ : ByteArray) ++ D0 ++ ⟨#[32]⟩ ++ D1) (by have e := nm_slot (x := ⟨o, s, h, r, k⟩) q (j := j) hjt; rw [NB.out] at e; rw [e]; exact (cat2 [115, 108, 111, 116, 32] hD0 hD1).symm) w1 T1; rw [show (8 + (h : Int) + (P : Int) + (k : Int) + (qs : Int) + 3 + (j : Int) : Int) = ((8 + h + P + k + qs + 3 + j : Nat) : Int) by omega]; exact this)
                      have sz0 : ¬ (9223372036854775807 < 4 + D0.size) := by omega
                      have sy0 : ¬ (9223372036854775807 < 5 + D0.size) := by omega
                      have sx0 : ¬ (9223372036854775807 < 5 + D0.size + 1) := by omega
                      have sx1 : ¬ (9223372036854775807 < 5 + D0.size + 1 + D1.size) := by omega
                      clear hD0 hD1
                      go_wp2_with (go_at_call 12; refine (SL.out _).mono ?_; rintro e c1 ⟨rfl, hb⟩; have HC1 := hide (HW.out.trans ((show Below wr.heap.size wr c1 from ⟨hb.os, hb.tape, hb.output, hb.size, hb.block⟩).mono HW.out.size)); clear hb; obtain ⟨-, n1, c1y0, c1y1, c1y2, c1y3, c1y4, c1y5⟩ := K.out c1 (HB5.out.trans (HC1.out.mono HB5.out.size)))
                      go_region_held (fun w' => w'.cell? ⟨w.heap.size, 0, none⟩ = some (.int .i64 (o : Int)) ∧ w'.cell? ⟨w.heap.size, 1, none⟩ = some (.int .i64 (s : Int)) ∧ w'.cell? ⟨w.heap.size, 2, none⟩ = some (.int .i64 (h : Int)) ∧ w'.cell? ⟨w.heap.size, 3, none⟩ = some (.int .i64 (r : Int)) ∧ w'.cell? ⟨w.heap.size, 4, none⟩ = some (.int .i64 (k : Int)) ∧ w'.cell? ⟨w.heap.size, 5, none⟩ = some (.int .i64 s5)) (go_keep) (first | (have hg := HC3.out; clear hg; go_at_call 23; refine (NM0.out _ (HT.out.below (K.out c3 (HB5.out.trans (HC3.out.mono HB5.out.size))).1 HT.out.1)).mono ?_; rintro e c4 ⟨rfl, hb⟩; have HC4 := hide (HC3.out.trans ((show Below c3.heap.size c3 c4 from ⟨hb.os, hb.tape, hb.output, hb.size, hb.block⟩).mono HC3.out.size)); clear hb; obtain ⟨-, n4, c4y0, c4y1, c4y2, c4y3, c4y4, c4y5⟩ := K.out c4 (HB5.out.trans (HC4.out.mono HB5.out.size))) | (have hg := HC2.out; clear hg; go_at_call_of 24 (j : Int); refine (RD1.out _).mono ?_; rintro e c3 ⟨rfl, hb⟩; have HC3 := hide (HC2.out.trans ((show Below c2.heap.size c2 c3 from ⟨hb.os, hb.tape, hb.output, hb.size, hb.block⟩).mono HC2.out.size)); clear hb; obtain ⟨-, n3, c3y0, c3y1, c3y2, c3y3, c3y4, c3y5⟩ := K.out c3 (HB5.out.trans (HC3.out.mono HB5.out.size))) | (have hg := HC2.out; clear hg; go_at_call 24; refine (RD0.out _).mono ?_; rintro e c3 ⟨rfl, hb⟩; have HC3 := hide (HC2.out.trans ((show Below c2.heap.size c2 c3 from ⟨hb.os, hb.tape, hb.output, hb.size, hb.block⟩).mono HC2.out.size)); clear hb; obtain ⟨-, n3, c3y0, c3y1, c3y2, c3y3, c3y4, c3y5⟩ := K.out c3 (HB5.out.trans (HC3.out.mono HB5.out.size))) | (go_at_call_of 24 (j : Int); refine (RD1.out _).mono ?_; rintro e c2 ⟨rfl, hb⟩; have HC2 := hide (HC1.out.trans ((show Below c1.heap.size c1 c2 from ⟨hb.os, hb.tape, hb.output, hb.size, hb.block⟩).mono HC1.out.size)); clear hb; obtain ⟨-, n2, c2y0, c2y1, c2y2, c2y3, c2y4, c2y5⟩ := K.out c2 (HB5.out.trans (HC2.out.mono HB5.out.size))) | (go_at_call 24; refine (RD0.out _).mono ?_; rintro e c2 ⟨rfl, hb⟩; have HC2 := hide (HC1.out.trans ((show Below c1.heap.size c1 c2 from ⟨hb.os, hb.tape, hb.output, hb.size, hb.block⟩).mono HC1.out.size)); clear hb; obtain ⟨-, n2, c2y0, c2y1, c2y2, c2y3, c2y4, c2y5⟩ := K.out c2 (HB5.out.trans (HC2.out.mono HB5.out.size))))
                      all_goals go_wp2_with fail
                      all_goals (
                        go_roundw
                        case rel => exact ⟨j + 1, by omega, by go_num, by go_num, HC4.out⟩
                        case measure => simp [intOf]; omega)
                    · have hjt' : ¬ ((j : Int) < (s : Int)) := by omega
                      obtain rfl : s = j := by omega
                      go_wp2_with fail
                      go_roundw
                      case rel => exact ⟨q + 1, qs + (3 + s), by omega, by rw [Nat.add_mul, HQS.out, Nat.one_mul], by go_num, by congr 1; omega, HW.out⟩
                      case measure => simp [intOf]; omega
                · have hot' : ¬ ((q : Int) + 1 ≤ (o : Int)) := by omega
                  obtain rfl : o = q := by omega
                  obtain rfl : Q = qs := HQ.out.symm.trans hqs
                  rw [← HSZ.out.1]
                  have HR9 := hide (HRz.out.of_block (HW.out.block _ HRz.out.lt))
                  have z8 : (7 : Int) < (z : Int) := by have := HSZ.out.1; omega
                  have z8n : 7 < z := by omega
                  have lg9 := HR9.out.lt
                  have cc0 : wr.cell? ⟨w2.heap.size, 0, none⟩ = some (.string ⟨#[112, 104, 97, 115, 101]⟩) := by have := HR9.out.cell (i := 0) (by omega); rw [this]; unfold cn; rw [if_pos (by omega)]; rfl
                  have cc1 : wr.cell? ⟨w2.heap.size, 1, none⟩ = some (.string ⟨#[102, 114, 101, 101]⟩) := by have := HR9.out.cell (i := 1) (by omega); rw [this]; unfold cn; rw [if_pos (by omega)]; rfl
                  have cc2 : wr.cell? ⟨w2.heap.size, 2, none⟩ = some (.string ⟨#[103, 114, 101, 121]⟩) := by have := HR9.out.cell (i := 2) (by omega); rw [this]; unfold cn; rw [if_pos (by omega)]; rfl
                  have cc3 : wr.cell? ⟨w2.heap.size, 3, none⟩ = some (.string ⟨#[113, 117, 101, 117, 101]⟩) := by have := HR9.out.cell (i := 3) (by omega); rw [this]; unfold cn; rw [if_pos (by omega)]; rfl
                  have cc7 : wr.cell? ⟨w2.heap.size, 7, none⟩ = some (.string ⟨#[99, 121, 99, 108, 101, 115]⟩) := by have := HR9.out.cell (i := 7) (by omega); rw [this]; unfold cn; rw [if_pos (by omega)]; rfl
                  have zc0 : (0 : Int) < (z : Int) := by omega
                  have zc1 : (1 : Int) < (z : Int) := by omega
                  have zc2 : (2 : Int) < (z : Int) := by omega
                  have zc3 : (3 : Int) < (z : Int) := by omega
                  go_wp2_with fail
                  go_ret
                  exact ⟨rfl, (K.out _ (HB5.out.trans (HW.out.mono HB5.out.size))).1⟩
theorem shapeNames_walk {s0 s1 s2 s3 s4 s5 : Int} {w : World} (TB : Tab w) : Calls Tryd.prog 4 #[.agg #[.int .i64 s0, .int .i64 s1, .int .i64 s2, .int .i64 s3, .int .i64 s4, .int .i64 s5]] w fun e w' => e = .returned (.bool true) ∧ Below w.heap.size w w' := by
  by_cases H : R5 s0 s1 s2 s3 s4
  · obtain ⟨o, s, h, r, k, rfl, rfl, rfl, rfl, rfl, H'⟩ := nat_of H
    exact names_right H' TB
  · exact names_wrong H TB
end Shape
end Go.Proofs.YtfnfoebmpggmdaaDoor
