/-
  Shape: the document's list of names.
-/
import Derived.Test.YtfnfoebmpggmdaaDoorShapeJ
import Derived.Maps.AppendAt
namespace Go.Proofs.YtfnfoebmpggmdaaDoor
open Go.RowKit
set_option linter.unusedVariables false
set_option linter.unusedSimpArgs false
set_option linter.unnecessarySimpa false
set_option maxRecDepth 20000
namespace Shape

set_option maxHeartbeats 16000000 in
theorem rnames {o s h r k : Nat} {s5 : Int} (H : (⟨o, s, h, r, k⟩ : Sh).Ok) (w : World) : Calls Tryd.prog 38 #[.agg #[.int .i64 (o : Int), .int .i64 (s : Int), .int .i64 (h : Int), .int .i64 (r : Int), .int .i64 (k : Int), .int .i64 s5]] w fun e w' => ∃ v, e = .returned v ∧ w'.ownsRow (w.heap.size + 1) 9 1 v (size ⟨o, s, h, r, k⟩) (nl ⟨o, s, h, r, k⟩ (size ⟨o, s, h, r, k⟩)) ∧ Below w.heap.size w w' := by
  obtain ⟨b1, b2, b3, b4, b5, b6, b7, b8, b9, b10⟩ := bnds H
  obtain ⟨i0, z0, hi, hz1, hz2, hz3, hz4⟩ := infoS
  obtain ⟨P, hP⟩ : ∃ P, h * r = P := ⟨_, rfl⟩
  obtain ⟨Q, hQ⟩ : ∃ Q, o * (3 + s) = Q := ⟨_, rfl⟩
  have HSZ := hide (show size ⟨o, s, h, r, k⟩ = 8 + h + P + k + Q ∧ bR ⟨o, s, h, r, k⟩ = 8 + h ∧ bK ⟨o, s, h, r, k⟩ = 8 + h + P ∧ bO ⟨o, s, h, r, k⟩ = 8 + h + P + k ∧ ow ⟨o, s, h, r, k⟩ = 3 + s from by rw [← hP, ← hQ]; exact ⟨rfl, rfl, rfl, rfl, rfl⟩)
  have HP := hide hP
  have HQ := hide hQ
  rw [hP] at b6
  rw [hQ] at b7
  clear hP hQ H
  obtain ⟨W0, hW0, B0, K⟩ := box w (o : Int) (s : Int) (h : Int) (r : Int) (k : Int) s5
  have HB := hide B0
  obtain ⟨-, l0, x0, x1, x2, x3, x4, x5⟩ := K.out W0 (Below.refl _ _)
  clear B0
  have E0 := hide (show W0.heap.size = w.heap.size + 1 from by rw [← hW0]; simp)
  have hs0 : ([.string ⟨#[112, 104, 97, 115, 101]⟩, .string ⟨#[102, 114, 101, 101]⟩, .string ⟨#[103, 114, 101, 121]⟩, .string ⟨#[113, 117, 101, 117, 101]⟩, .string ⟨#[97, 108, 108, 111, 99, 97, 116, 101, 100]⟩, .string ⟨#[102, 114, 101, 101, 100]⟩, .string ⟨#[113, 117, 101, 117, 101, 100]⟩, .string ⟨#[99, 121, 99, 108, 101, 115]⟩] : List Value) = nl ⟨o, s, h, r, k⟩ 8 := by rfl
  have OW0 := hide (show (W0.alloc (.cells #[.string ⟨#[112, 104, 97, 115, 101]⟩, .string ⟨#[102, 114, 101, 101]⟩, .string ⟨#[103, 114, 101, 121]⟩, .string ⟨#[113, 117, 101, 117, 101]⟩, .string ⟨#[97, 108, 108, 111, 99, 97, 116, 101, 100]⟩, .string ⟨#[102, 114, 101, 101, 100]⟩, .string ⟨#[113, 117, 101, 117, 101, 100]⟩, .string ⟨#[99, 121, 99, 108, 101, 115]⟩] 9)).ownsRow W0.heap.size 9 1 (.slice (some ⟨W0.heap.size, 0, none⟩) 8 8) 8 (nl ⟨o, s, h, r, k⟩ 8) from by
    rw [← hs0]; exact World.ownsRow_lit _ _ 8 (by omega) (by unfold maxLen; omega) rfl)
  clear hs0
  go_enter Tryd.func38, Tryd.ntmps38
  go_wp2_with fail
  go_loopw [3, 4] (fun s3 s4 wr => ∃ (q : Nat) (v3 : Value), q ≤ h ∧ s4 = .int .i64 (q : Int) ∧ v3 = s3 ∧ Hid (wr.ownsRow W0.heap.size 9 1 v3 (8 + q) (nl ⟨o, s, h, r, k⟩ (8 + q))) ∧ Hid (Below W0.heap.size W0 wr)) (fun _ v4 _ => h - (intOf v4).toNat)
  case atStart => exact ⟨0, _, Nat.zero_le _, rfl, rfl, OW0.out, (Below.refl _ W0).alloc (Nat.le_refl _) _⟩
  case round =>
    obtain ⟨q, v3, hq, rfl, rfl, HO, HBW⟩ := hrel
    obtain ⟨-, m1, y0, y1, y2, y3, y4, y5⟩ := K.out wr HBW.out
    clear x0 x1 x2 x3 x4 x5
    by_cases hlt : q < h
    · have hlt' : (q : Int) < (h : Int) := by omega
      obtain ⟨D0, hD0, sD0⟩ := txt (q) (by omega)
      have RD0 := hide (fun w1 => show Calls Tryd.prog 43 #[.int .i64 ((q : Int))] w1 fun e w' => e = .returned (.string D0) ∧ Below w1.heap.size w1 w' from by have := rdec_ok (q) (by omega) w1; rw [hD0] at this; simpa using this)
      have EE0 := hide (show (⟨#[97, 99, 107, 32]⟩ : ByteArray) ++ D0 = ⟨(nm ⟨o, s, h, r, k⟩ (8 + q)).toArray⟩ from by rw [nm_ack (x := ⟨o, s, h, r, k⟩) hlt]; exact cat1 [97, 99, 107, 32] hD0)
      have sz0 : ¬ (9223372036854775807 < 5 + D0.size) := by omega
      have sy0 : ¬ (9223372036854775807 < 4 + D0.size) := by omega
      clear hD0
      go_wp2_with (first | (go_at_call 43; refine (RD0.out _).mono ?_; rintro e w1 ⟨rfl, hb_w1⟩; have HB_w1 := hide hb_w1; clear hb_w1) | (at_builtin; refine wpList_append_own_at _ rfl (.tmp 17) (.tmp 21) 41 rfl W0.heap.size 9 i0 z0 1 16 Tryd.underlying41 hi hz1 hz2 hz3 hz4 (by decide) v3 (8 + q) (nl ⟨o, s, h, r, k⟩ (8 + q)) rfl ((owns_keep HO.out HB_w1.out).alloc _) ⟨w1.heap.size, 0, none⟩ 1 1 [.string ((⟨#[97, 99, 107, 32]⟩ : ByteArray) ++ D0)] rfl (by simp) (fun j u hj => by match j, hj with | 0, hj => (cases hj; simp [Addr.add])) (one_str _ (by simp)) (by unfold maxLen; omega) (by omega) (by have := HB_w1.out.size; have := HBW.out.size; simp; omega) ?_; intro v4 w9 hown hgr _ _; have HO2 := hide hown; have HG := hide hgr; clear hown hgr))
      have HBn := hide (grown_on HBW.out HBW.out.size HB_w1.out HO.out HG.out)
      have HOn := hide (show w9.ownsRow W0.heap.size 9 1 v4 (8 + q + 1) (nl ⟨o, s, h, r, k⟩ (8 + q + 1)) from by rw [nl_more]; have := HO2.out; rw [EE0.out] at this; exact this)
      go_wp2_with fail
      go_roundw
      case rel => exact ⟨q + 1, _, by omega, by go_num, rfl, HOn.out, HBn.out⟩
      case measure => simp [intOf]; omega
    · have hlt' : ¬ ((q : Int) < (h : Int)) := by omega
      obtain rfl : h = q := by omega
      obtain ⟨W1, hW1⟩ : ∃ W1, W1 = wr := ⟨_, rfl⟩
      subst hW1
      have HO1 := hide HO.out
      have HBW1 := hide HBW.out
      clear HO HBW
      go_wp2_with fail
      go_loopw [3, 5] (fun s3 s5 wr => ∃ (q : Nat) (v3 : Value), q ≤ h ∧ s5 = .int .i64 (q : Int) ∧ v3 = s3 ∧ Hid (wr.ownsRow W0.heap.size 9 1 v3 (8 + h + q * r) (nl ⟨o, s, h, r, k⟩ (8 + h + q * r))) ∧ Hid (Below W0.heap.size W0 wr)) (fun _ v5 _ => h - (intOf v5).toNat)
      case atStart => exact ⟨0, _, Nat.zero_le _, rfl, rfl, by rw [Nat.zero_mul]; exact HO1.out, HBW1.out⟩
      case round =>
        obtain ⟨q, v3, hq, rfl, rfl, HO, HBW⟩ := hrel
        clear y0 y1 y2 y3 y4 y5 m1
        obtain ⟨-, m1, y0, y1, y2, y3, y4, y5⟩ := K.out wr HBW.out
        by_cases hlt : q < h
        · have hlt' : (q : Int) < (h : Int) := by omega
          obtain ⟨W2, hW2⟩ : ∃ W2, W2 = wr := ⟨_, rfl⟩
          subst hW2
          have HO2' := hide HO.out
          have HBW2 := hide HBW.out
          obtain ⟨qr, hqr⟩ : ∃ qr, q * r = qr := ⟨_, rfl⟩
          have hqr2 : qr + r ≤ P := by
            have : (q + 1) * r ≤ h * r := Nat.mul_le_mul_right _ hlt
            rw [HP.out, Nat.add_mul, hqr] at this
            omega
          rw [hqr] at HO2'
          have HQR := hide hqr
          clear HO HBW hqr
          go_wp2_with fail
          go_loopw [3, 6] (fun s3 s6 wr => ∃ (j : Nat) (v3 : Value), j ≤ r ∧ s6 = .int .i64 (j : Int) ∧ v3 = s3 ∧ Hid (wr.ownsRow W0.heap.size 9 1 v3 (8 + h + qr + j) (nl ⟨o, s, h, r, k⟩ (8 + h + qr + j))) ∧ Hid (Below W0.heap.size W0 wr)) (fun _ v6 _ => r - (intOf v6).toNat)
          case atStart => exact ⟨0, _, Nat.zero_le _, rfl, rfl, HO2'.out, HBW2.out⟩
          case round =>
            obtain ⟨j, v3, hj, rfl, rfl, HO, HBW⟩ := hrel
            clear y0 y1 y2 y3 y4 y5 m1
            obtain ⟨-, m1, y0, y1, y2, y3, y4, y5⟩ := K.out wr HBW.out
            by_cases hjt : j < r
            · have hjt' : (j : Int) < (r : Int) := by omega
              obtain ⟨D0, hD0, sD0⟩ := txt (q) (by omega)
              have RD0 := hide (fun w1 => show Calls Tryd.prog 43 #[.int .i64 ((q : Int))] w1 fun e w' => e = .returned (.string D0) ∧ Below w1.heap.size w1 w' from by have := rdec_ok (q) (by omega) w1; rw [hD0] at this; simpa using this)
              obtain ⟨D1, hD1, sD1⟩ := txt (j) (by omega)
              have RD1 := hide (fun w1 => show Calls Tryd.prog 43 #[.int .i64 ((j : Int))] w1 fun e w' => e = .returned (.string D1) ∧ Below w1.heap.size w1 w' from by have := rdec_ok (j) (by omega) w1; rw [hD1] at this; simpa using this)
              have EE0 := hide (show (⟨#[114, 111, 111, 116, 32]⟩ : ByteArray) ++ D0 ++ ⟨#[32]⟩ ++ D1 = ⟨(nm ⟨o, s, h, r, k⟩ (8 + h + qr + j)).toArray⟩ from by have e := nm_root (x := ⟨o, s, h, r, k⟩) (i := q) (j := j) hlt hjt; rw [HSZ.out.2.1, show q * (⟨o, s, h, r, k⟩ : Sh).r = qr from HQR.out] at e; rw [e]; exact cat2 [114, 111, 111, 116, 32] hD0 hD1)
              have sz0 : ¬ (9223372036854775807 < 5 + D0.size) := by omega
              have sy0 : ¬ (9223372036854775807 < 4 + D0.size) := by omega
              have sz1 : ¬ (9223372036854775807 < 5 + D1.size) := by omega
              have sy1 : ¬ (9223372036854775807 < 4 + D1.size) := by omega
              have sx0 : ¬ (9223372036854775807 < 5 + D0.size + 1) := by omega
              have sx1 : ¬ (9223372036854775807 < 5 + D0.size + 1 + D1.size) := by omega
              clear hD0
              clear hD1
              go_wp2_with (first | (have hg1 := HB_w1.out; clear hg1; go_at_call 43; refine (RD1.out _).mono ?_; rintro e w2 ⟨rfl, hb_w2⟩; have HB_w2 := hide (HB_w1.out.trans (hb_w2.mono HB_w1.out.size)); clear hb_w2) | (go_at_call 43; refine (RD0.out _).mono ?_; rintro e w1 ⟨rfl, hb_w1⟩; have HB_w1 := hide hb_w1; clear hb_w1) | (at_builtin; refine wpList_append_own_at _ rfl (.tmp 35) (.tmp 43) 41 rfl W0.heap.size 9 i0 z0 1 16 Tryd.underlying41 hi hz1 hz2 hz3 hz4 (by decide) v3 (8 + h + qr + j) (nl ⟨o, s, h, r, k⟩ (8 + h + qr + j)) rfl ((owns_keep HO.out HB_w2.out).alloc _) ⟨w2.heap.size, 0, none⟩ 1 1 [.string ((⟨#[114, 111, 111, 116, 32]⟩ : ByteArray) ++ D0 ++ ⟨#[32]⟩ ++ D1)] rfl (by simp) (fun j u hj => by match j, hj with | 0, hj => (cases hj; simp [Addr.add])) (one_str _ (by simp)) (by unfold maxLen; omega) (by omega) (by have := HB_w2.out.size; have := HBW.out.size; simp; omega) ?_; intro v4 w9 hown hgr _ _; have HO2 := hide hown; have HG := hide hgr; clear hown hgr))
              have HBn := hide (grown_on HBW.out HBW.out.size HB_w2.out HO.out HG.out)
              have HOn := hide (show w9.ownsRow W0.heap.size 9 1 v4 (8 + h + qr + j + 1) (nl ⟨o, s, h, r, k⟩ (8 + h + qr + j + 1)) from by rw [nl_more]; have := HO2.out; rw [EE0.out] at this; exact this)
              go_wp2_with fail
              go_roundw
              case rel => exact ⟨j + 1, _, by omega, by go_num, rfl, HOn.out, HBn.out⟩
              case measure => simp [intOf]; omega
            · have hjt' : ¬ ((j : Int) < (r : Int)) := by omega
              obtain rfl : r = j := by omega
              go_wp2_with fail
              go_roundw
              case rel => exact ⟨q + 1, _, by omega, by go_num, rfl, by rw [Nat.add_mul, HQR.out, Nat.one_mul, ← Nat.add_assoc]; exact HO.out, HBW.out⟩
              case measure => simp [intOf]; omega
        · have hlt' : ¬ ((q : Int) < (h : Int)) := by omega
          obtain rfl : h = q := by omega
          obtain ⟨W3, hW3⟩ : ∃ W3, W3 = wr := ⟨_, rfl⟩
          subst hW3
          have HO3 := hide HO.out
          have HBW3 := hide HBW.out
          rw [HP.out] at HO3
          clear HO HBW HO1 HBW1
          go_wp2_with fail
          go_loopw [3, 7] (fun s3 s7 wr => ∃ (q : Nat) (v3 : Value), q ≤ k ∧ s7 = .int .i64 (q : Int) ∧ v3 = s3 ∧ Hid (wr.ownsRow W0.heap.size 9 1 v3 (8 + h + P + q) (nl ⟨o, s, h, r, k⟩ (8 + h + P + q))) ∧ Hid (Below W0.heap.size W0 wr)) (fun _ v7 _ => k - (intOf v7).toNat)
          case atStart => exact ⟨0, _, Nat.zero_le _, rfl, rfl, HO3.out, HBW3.out⟩
          case round =>
            obtain ⟨q, v3, hq, rfl, rfl, HO, HBW⟩ := hrel
            clear y0 y1 y2 y3 y4 y5 m1
            obtain ⟨-, m1, y0, y1, y2, y3, y4, y5⟩ := K.out wr HBW.out
            by_cases hkt : q < k
            · have hkt' : (q : Int) < (k : Int) := by omega
              obtain ⟨D0, hD0, sD0⟩ := txt (q) (by omega)
              have RD0 := hide (fun w1 => show Calls Tryd.prog 43 #[.int .i64 ((q : Int))] w1 fun e w' => e = .returned (.string D0) ∧ Below w1.heap.size w1 w' from by have := rdec_ok (q) (by omega) w1; rw [hD0] at this; simpa using this)
              have EE0 := hide (show (⟨#[119, 101, 97, 107, 32]⟩ : ByteArray) ++ D0 = ⟨(nm ⟨o, s, h, r, k⟩ (8 + h + P + q)).toArray⟩ from by have e := nm_weak (x := ⟨o, s, h, r, k⟩) (i := q) hkt; rw [HSZ.out.2.2.1] at e; rw [e]; exact cat1 [119, 101, 97, 107, 32] hD0)
              have sz0 : ¬ (9223372036854775807 < 5 + D0.size) := by omega
              have sy0 : ¬ (9223372036854775807 < 4 + D0.size) := by omega
              clear hD0
              go_wp2_with (first | (go_at_call 43; refine (RD0.out _).mono ?_; rintro e w1 ⟨rfl, hb_w1⟩; have HB_w1 := hide hb_w1; clear hb_w1) | (at_builtin; refine wpList_append_own_at _ rfl (.tmp 51) (.tmp 55) 41 rfl W0.heap.size 9 i0 z0 1 16 Tryd.underlying41 hi hz1 hz2 hz3 hz4 (by decide) v3 (8 + h + P + q) (nl ⟨o, s, h, r, k⟩ (8 + h + P + q)) rfl ((owns_keep HO.out HB_w1.out).alloc _) ⟨w1.heap.size, 0, none⟩ 1 1 [.string ((⟨#[119, 101, 97, 107, 32]⟩ : ByteArray) ++ D0)] rfl (by simp) (fun j u hj => by match j, hj with | 0, hj => (cases hj; simp [Addr.add])) (one_str _ (by simp)) (by unfold maxLen; omega) (by omega) (by have := HB_w1.out.size; have := HBW.out.size; simp; omega) ?_; intro v4 w9 hown hgr _ _; have HO2 := hide hown; have HG := hide hgr; clear hown hgr))
              have HBn := hide (grown_on HBW.out HBW.out.size HB_w1.out HO.out HG.out)
              have HOn := hide (show w9.ownsRow W0.heap.size 9 1 v4 (8 + h + P + q + 1) (nl ⟨o, s, h, r, k⟩ (8 + h + P + q + 1)) from by rw [nl_more]; have := HO2.out; rw [EE0.out] at this; exact this)
              go_wp2_with fail
              go_roundw
              case rel => exact ⟨q + 1, _, by omega, by go_num, rfl, HOn.out, HBn.out⟩
              case measure => simp [intOf]; omega
            · have hkt' : ¬ ((q : Int) < (k : Int)) := by omega
              obtain rfl : k = q := by omega
              obtain ⟨W4, hW4⟩ : ∃ W4, W4 = wr := ⟨_, rfl⟩
              subst hW4
              have HO4 := hide HO.out
              have HBW4 := hide HBW.out
              clear HO HBW HO3 HBW3
              go_wp2_with fail
              go_loopw [3, 8] (fun s3 s8 wr => ∃ (q : Nat) (v3 : Value), q ≤ o ∧ s8 = .int .i64 ((q : Int) + 1) ∧ v3 = s3 ∧ Hid (wr.ownsRow W0.heap.size 9 1 v3 (8 + h + P + k + q * (3 + s)) (nl ⟨o, s, h, r, k⟩ (8 + h + P + k + q * (3 + s)))) ∧ Hid (Below W0.heap.size W0 wr)) (fun _ v8 _ => o + 1 - (intOf v8).toNat)
              case atStart => exact ⟨0, _, Nat.zero_le _, rfl, rfl, by rw [Nat.zero_mul]; exact HO4.out, HBW4.out⟩
              case round =>
                obtain ⟨q, v3, hq, rfl, rfl, HO, HBW⟩ := hrel
                clear y0 y1 y2 y3 y4 y5 m1
                obtain ⟨-, m1, y0, y1, y2, y3, y4, y5⟩ := K.out wr HBW.out
                by_cases hot : q < o
                · have hot' : (q : Int) + 1 ≤ (o : Int) := by omega
                  obtain ⟨qs, hqs⟩ : ∃ qs, q * (3 + s) = qs := ⟨_, rfl⟩
                  have hqs2 : qs + (3 + s) ≤ Q := by
                    have : (q + 1) * (3 + s) ≤ o * (3 + s) := Nat.mul_le_mul_right _ hot
                    rw [HQ.out, Nat.add_mul, hqs] at this
                    omega
                  rw [hqs] at HO
                  have HQS := hide hqs
                  have NB := hide (show bO ⟨o, s, h, r, k⟩ + q * ow ⟨o, s, h, r, k⟩ = 8 + h + P + k + qs from by rw [HSZ.out.2.2.2.1, HSZ.out.2.2.2.2, hqs])
                  clear hqs
                  obtain ⟨D0, hD0, sD0⟩ := txt (q + 1) (by omega)
                  have RD0 := hide (fun w1 => show Calls Tryd.prog 43 #[.int .i64 ((q : Int) + 1)] w1 fun e w' => e = .returned (.string D0) ∧ Below w1.heap.size w1 w' from by have := rdec_ok (q + 1) (by omega) w1; rw [hD0] at this; simpa using this)
                  have RD1 := hide (fun w1 => show Calls Tryd.prog 43 #[.int .i64 ((q : Int) + 1)] w1 fun e w' => e = .returned (.string D0) ∧ Below w1.heap.size w1 w' from by have := rdec_ok (q + 1) (by omega) w1; rw [hD0] at this; simpa using this)
                  have RD2 := hide (fun w1 => show Calls Tryd.prog 43 #[.int .i64 ((q : Int) + 1)] w1 fun e w' => e = .returned (.string D0) ∧ Below w1.heap.size w1 w' from by have := rdec_ok (q + 1) (by omega) w1; rw [hD0] at this; simpa using this)
                  have EE0 := hide (show (⟨#[104, 101, 97, 100, 32]⟩ : ByteArray) ++ D0 = ⟨(nm ⟨o, s, h, r, k⟩ (8 + h + P + k + qs)).toArray⟩ from by have e := nm_head (x := ⟨o, s, h, r, k⟩) q; rw [NB.out] at e; rw [e]; exact cat1 [104, 101, 97, 100, 32] hD0)
                  have EE1 := hide (show (⟨#[108, 105, 110, 107, 32]⟩ : ByteArray) ++ D0 = ⟨(nm ⟨o, s, h, r, k⟩ (8 + h + P + k + qs + 1)).toArray⟩ from by have e := nm_link (x := ⟨o, s, h, r, k⟩) q; rw [NB.out] at e; rw [e]; exact cat1 [108, 105, 110, 107, 32] hD0)
                  have EE2 := hide (show (⟨#[110, 101, 120, 116, 32]⟩ : ByteArray) ++ D0 = ⟨(nm ⟨o, s, h, r, k⟩ (8 + h + P + k + qs + 2)).toArray⟩ from by have e := nm_next (x := ⟨o, s, h, r, k⟩) q; rw [NB.out] at e; rw [e]; exact cat1 [110, 101, 120, 116, 32] hD0)
                  have sz0 : ¬ (9223372036854775807 < 5 + D0.size) := by omega
                  have sy0 : ¬ (9223372036854775807 < 4 + D0.size) := by omega
                  clear hD0
                  go_wp2_with (first | (have hg2 := HB_w2.out; clear hg2; go_at_call 43; refine (RD2.out _).mono ?_; rintro e w3 ⟨rfl, hb_w3⟩; have HB_w3 := hide (HB_w2.out.trans (hb_w3.mono HB_w2.out.size)); clear hb_w3) | (have hg1 := HB_w1.out; clear hg1; go_at_call 43; refine (RD1.out _).mono ?_; rintro e w2 ⟨rfl, hb_w2⟩; have HB_w2 := hide (HB_w1.out.trans (hb_w2.mono HB_w1.out.size)); clear hb_w2) | (go_at_call 43; refine (RD0.out _).mono ?_; rintro e w1 ⟨rfl, hb_w1⟩; have HB_w1 := hide hb_w1; clear hb_w1) | (at_builtin; refine wpList_append_own_at _ rfl (.tmp 63) (.tmp 73) 41 rfl W0.heap.size 9 i0 z0 1 16 Tryd.underlying41 hi hz1 hz2 hz3 hz4 (by decide) v3 (8 + h + P + k + qs) (nl ⟨o, s, h, r, k⟩ (8 + h + P + k + qs)) rfl ((owns_keep HO.out HB_w3.out).alloc _) ⟨w3.heap.size, 0, none⟩ 3 3 [.string ((⟨#[104, 101, 97, 100, 32]⟩ : ByteArray) ++ D0), .string ((⟨#[108, 105, 110, 107, 32]⟩ : ByteArray) ++ D0), .string ((⟨#[110, 101, 120, 116, 32]⟩ : ByteArray) ++ D0)] rfl (by simp) (fun j u hj => by match j, hj with | 0, hj => (cases hj; simp [Addr.add]) | 1, hj => (cases hj; simp [Addr.add]) | 2, hj => (cases hj; simp [Addr.add])) (one_str _ (by simp)) (by unfold maxLen; omega) (by omega) (by have := HB_w3.out.size; have := HBW.out.size; simp; omega) ?_; intro v4 w9 hown hgr _ _; have HO2 := hide hown; have HG := hide hgr; clear hown hgr))
                  have HBn := hide (grown_on HBW.out HBW.out.size HB_w3.out HO.out HG.out)
                  have HOn := hide (show w9.ownsRow W0.heap.size 9 1 v4 (8 + h + P + k + qs + 3) (nl ⟨o, s, h, r, k⟩ (8 + h + P + k + qs + 3)) from by rw [nl_more, nl_more, nl_more]; have := HO2.out; rw [EE0.out, EE1.out, EE2.out] at this; simpa using this)
                  go_wp2_with fail
                  clear HO HBW y0 y1 y2 y3 y4 y5 m1
                  go_loopw [3, 9] (fun s3 s9 wr => ∃ (j : Nat) (v3 : Value), j ≤ s ∧ s9 = .int .i64 (j : Int) ∧ v3 = s3 ∧ Hid (wr.ownsRow W0.heap.size 9 1 v3 (8 + h + P + k + qs + 3 + j) (nl ⟨o, s, h, r, k⟩ (8 + h + P + k + qs + 3 + j))) ∧ Hid (Below W0.heap.size W0 wr)) (fun _ v9 _ => s - (intOf v9).toNat)
                  case atStart => exact ⟨0, _, Nat.zero_le _, rfl, rfl, HOn.out, HBn.out⟩
                  case round =>
                    obtain ⟨j, v3, hj, rfl, rfl, HO, HBW⟩ := hrel
                    obtain ⟨-, m1, y0, y1, y2, y3, y4, y5⟩ := K.out wr HBW.out
                    clear HOn HBn EE0 EE1 EE2 HO2 HG HB_w1 HB_w2 HB_w3 RD0 RD1 RD2 sD0 sz0 sy0
                    by_cases hjt : j < s
                    · have hjt' : (j : Int) < (s : Int) := by omega
                      obtain ⟨D0, hD0, sD0⟩ := txt (q + 1) (by omega)
                      have RD0 := hide (fun w1 => show Calls Tryd.prog 43 #[.int .i64 ((q : Int) + 1)] w1 fun e w' => e = .returned (.string D0) ∧ Below w1.heap.size w1 w' from by have := rdec_ok (q + 1) (by omega) w1; rw [hD0] at this; simpa using this)
                      obtain ⟨D1, hD1, sD1⟩ := txt (j) (by omega)
                      have RD1 := hide (fun w1 => show Calls Tryd.prog 43 #[.int .i64 ((j : Int))] w1 fun e w' => e = .returned (.string D1) ∧ Below w1.heap.size w1 w' from by have := rdec_ok (j) (by omega) w1; rw [hD1] at this; simpa using this)
                      have EE0 := hide (show (⟨#[115, 108, 111, 116, 32]⟩ : ByteArray) ++ D0 ++ ⟨#[32]⟩ ++ D1 = ⟨(nm ⟨o, s, h, r, k⟩ (8 + h + P + k + qs + 3 + j)).toArray⟩ from by have e := nm_slot (x := ⟨o, s, h, r, k⟩) q (j := j) hjt; rw [NB.out] at e; rw [e]; exact cat2 [115, 108, 111, 116, 32] hD0 hD1)
                      have sz0 : ¬ (9223372036854775807 < 5 + D0.size) := by omega
                      have sy0 : ¬ (9223372036854775807 < 4 + D0.size) := by omega
                      have sz1 : ¬ (9223372036854775807 < 5 + D1.size) := by omega
                      have sy1 : ¬ (9223372036854775807 < 4 + D1.size) := by omega
                      have sx0 : ¬ (9223372036854775807 < 5 + D0.size + 1) := by omega
                      have sx1 : ¬ (9223372036854775807 < 5 + D0.size + 1 + D1.size) := by omega
                      clear hD0
                      clear hD1
                      go_wp2_with (first | (have hg1 := HB_w1.out; clear hg1; go_at_call 43; refine (RD1.out _).mono ?_; rintro e w2 ⟨rfl, hb_w2⟩; have HB_w2 := hide (HB_w1.out.trans (hb_w2.mono HB_w1.out.size)); clear hb_w2) | (go_at_call 43; refine (RD0.out _).mono ?_; rintro e w1 ⟨rfl, hb_w1⟩; have HB_w1 := hide hb_w1; clear hb_w1) | (at_builtin; refine wpList_append_own_at _ rfl (.tmp 81) (.tmp 89) 41 rfl W0.heap.size 9 i0 z0 1 16 Tryd.underlying41 hi hz1 hz2 hz3 hz4 (by decide) v3 (8 + h + P + k + qs + 3 + j) (nl ⟨o, s, h, r, k⟩ (8 + h + P + k + qs + 3 + j)) rfl ((owns_keep HO.out HB_w2.out).alloc _) ⟨w2.heap.size, 0, none⟩ 1 1 [.string ((⟨#[115, 108, 111, 116, 32]⟩ : ByteArray) ++ D0 ++ ⟨#[32]⟩ ++ D1)] rfl (by simp) (fun j u hj => by match j, hj with | 0, hj => (cases hj; simp [Addr.add])) (one_str _ (by simp)) (by unfold maxLen; omega) (by omega) (by have := HB_w2.out.size; have := HBW.out.size; simp; omega) ?_; intro v4 w9 hown hgr _ _; have HO2 := hide hown; have HG := hide hgr; clear hown hgr))
                      have HBn := hide (grown_on HBW.out HBW.out.size HB_w2.out HO.out HG.out)
                      have HOn := hide (show w9.ownsRow W0.heap.size 9 1 v4 (8 + h + P + k + qs + 3 + j + 1) (nl ⟨o, s, h, r, k⟩ (8 + h + P + k + qs + 3 + j + 1)) from by rw [nl_more]; have := HO2.out; rw [EE0.out] at this; exact this)
                      go_wp2_with fail
                      go_roundw
                      case rel => exact ⟨j + 1, _, by omega, by go_num, rfl, HOn.out, HBn.out⟩
                      case measure => simp [intOf]; omega
                    · have hjt' : ¬ ((j : Int) < (s : Int)) := by omega
                      obtain rfl : s = j := by omega
                      go_wp2_with fail
                      go_roundw
                      case rel => exact ⟨q + 1, _, by omega, by go_num, rfl, by rw [Nat.add_mul, HQS.out, Nat.one_mul, ← Nat.add_assoc, ← Nat.add_assoc]; exact HO.out, HBW.out⟩
                      case measure => simp [intOf]; omega
                · have hot' : ¬ ((q : Int) + 1 ≤ (o : Int)) := by omega
                  obtain rfl : o = q := by omega
                  go_wp2_with fail
                  go_ret
                  refine ⟨_, rfl, ?_, (K.out _ HBW.out).1⟩
                  have := HO.out
                  rw [HQ.out] at this
                  rw [HSZ.out.1, ← E0.out]
                  exact this
end Shape
end Go.Proofs.YtfnfoebmpggmdaaDoor
