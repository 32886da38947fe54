/-
  ShapeFresh: the law's own walk.
-/
import Derived.Test.YtfnfoebmpggmdaaDoorShapeS
import Derived.Test.YtfnfoebmpggmdaaDoorShapeT
import Derived.Test.YtfnfoebmpggmdaaDoorShapeL
import Derived.Maps.AppendAt
namespace Go.Proofs.YtfnfoebmpggmdaaDoor
open Go.RowKit
set_option linter.unusedVariables false
set_option linter.unusedSimpArgs false
set_option linter.unnecessarySimpa false
set_option maxRecDepth 20000
namespace Shape
/-- A row's first cells are these. -/
def Pre (F : Nat → Value) (xs : List Value) : Prop := ∀ i u, xs[i]? = some u → F i = u

theorem owns_of_row {w : World} {b cap n size base : Nat} {e : TypeId} {F : Nat → Value} {xs : List Value} (h : w.rowIs b e (cap * size) F) (hp : Pre F xs) (hl : xs.length = n * size) (hn : n ≤ cap) (hc : cap ≤ maxLen) (hb : base ≤ b) :
    w.ownsRow base e size (.slice (some ⟨b, 0, none⟩) n cap) n xs := by
  obtain ⟨cur, hg, hs, hcur⟩ := h
  have hle : n * size ≤ cap * size := Nat.mul_le_mul_right _ hn
  refine ⟨hl, .inr ⟨b, cap, cur, rfl, hb, hg, hn, hc, hs, ?_⟩⟩
  apply List.ext_getElem?
  intro i
  by_cases hi : i < n * size
  · rw [List.getElem?_take, if_pos hi]
    have h1 := hcur i (by omega)
    obtain ⟨u, hu⟩ : ∃ u, xs[i]? = some u := ⟨xs[i]'(by omega), by rw [List.getElem?_eq_getElem]⟩
    rw [hu, ← hp i u hu]
    simpa using h1
  · rw [List.getElem?_take, if_neg hi, List.getElem?_eq_none (by omega)]

theorem infoU : ∃ i z, Tryd.prog.info? 51 = some i ∧ i.zero = some z ∧ i.size = 1 ∧ i.bytes = 8 ∧ z.cells.size = 1 := by
  have h : (Tryd.prog.info? 51).map (fun i => (i.zero.map Value.cells, i.size, i.bytes)) = some (some #[.int .u64 0], 1, 8) := by kernel_rfl
  obtain ⟨i, hi, h2⟩ := Option.map_eq_some_iff.1 h
  simp only [Prod.mk.injEq] at h2
  obtain ⟨z, hz, hc⟩ := Option.map_eq_some_iff.1 h2.1
  exact ⟨i, z, hi, hz, h2.2.1, h2.2.2, by rw [hc]; rfl⟩
theorem row_owns {w : World} {g z base : Nat} {f : Nat → Int} (h : IsRow w g z z f) (hb : base ≤ g) : w.ownsRow base 51 1 (.slice (some ⟨g, 0, none⟩) z z) z ((List.range z).map fun i => Value.int .u64 (f i)) := by
  obtain ⟨h1, h2, ⟨c, hr, hc⟩, h3⟩ := h
  refine owns_of_row (F := c) (by simpa using hr) (fun i u hu => ?_) (by simp) (Nat.le_refl _) h2 hb
  rw [List.getElem?_map] at hu
  obtain ⟨j, hj, rfl⟩ := Option.map_eq_some_iff.1 hu
  have hz : i < z := by have := (List.getElem?_eq_some_iff.1 hj).1; simpa using this
  have : j = i := by rw [List.getElem?_range hz] at hj; exact (Option.some.inj hj).symm
  subst this
  exact hc j hz
theorem own_slice' {w : World} {base : Nat} {e : TypeId} {size : Nat} {v : Value} {n : Nat} {xs : List Value} (h : w.ownsRow base e size v n xs) : ∃ ao cp, v = .slice ao n cp := by
  obtain ⟨hl, ⟨rfl, rfl⟩ | ⟨g, cap, cur, rfl, _⟩⟩ := h
  · exact ⟨_, _, rfl⟩
  · exact ⟨_, _, rfl⟩

set_option maxHeartbeats 4000000 in
theorem fresh_wrong {s0 s1 s2 s3 s4 s5 : Int} (H : ¬ R5 s0 s1 s2 s3 s4) {w : World} (TB : Tab w) : Calls Tryd.prog 5 #[.agg #[.int .i64 s0, .int .i64 s1, .int .i64 s2, .int .i64 s3, .int .i64 s4, .int .i64 s5]] w fun e w' => e = .returned (.bool true) ∧ Below w.heap.size w w' := by
  have HH := hide H
  have HT := hide TB
  clear H TB
  obtain ⟨W0, hW0, B0, K⟩ := box w s0 s1 s2 s3 s4 s5
  have HB := hide B0
  obtain ⟨-, l0, x0, x1, x2, x3, x4, x5⟩ := K.out W0 (Below.refl _ _)
  clear B0
  have AW := hide (awake_ok (HT.out.below HB.out HT.out.1))
  go_enter Tryd.func5, Tryd.ntmps5
  go_wp2_with (first
    | (go_at_call 6; refine AW.out.mono ?_; rintro e w1 ⟨rfl, hb1⟩; have HB1 := hide hb1; clear hb1; obtain ⟨-, m1, y0, y1, y2, y3, y4, y5⟩ := K.out w1 HB1.out)
    | (go_at_call 25; refine (rfresh_bad HH.out _).mono ?_; rintro e w2 ⟨rfl, hb2⟩; have HB2 := hide (HB1.out.trans (hb2.mono HB1.out.size)); clear hb2; obtain ⟨-, m2, u0, u1, u2, u3, u4, u5⟩ := K.out w2 HB2.out)
    | (have hg3 := HB3.out; clear hg3; go_at_call 26; refine (fresh_bad HH.out _).mono ?_; rintro e w4 ⟨rfl, hb4⟩; have HB4 := hide (HB3.out.trans (hb4.mono HB3.out.size)); clear hb4)
    | (go_at_call 26; refine (fresh_bad HH.out _).mono ?_; rintro e w3 ⟨rfl, hb3⟩; have HB3 := hide (HB2.out.trans (hb3.mono HB2.out.size)); clear hb3; obtain ⟨-, m3, t0, t1, t2, t3, t4, t5⟩ := K.out w3 HB3.out)
    | (go_at_call 27; refine (same_words (B := 0) (B' := 0) (f := fun _ => 0) (f' := fun _ => 0) (fun j hj => absurd hj (Nat.not_lt_zero j)) (fun j hj => absurd hj (Nat.not_lt_zero j)) (fun _ _ => rfl) (by omega)).mono ?_; rintro e w5 ⟨rfl, mm, rfl⟩))
  go_ret
  exact ⟨rfl, below_drewN (K.out _ HB4.out).1 _⟩

/-- What the law's walk along the list keeps. -/
def lk (o n : Nat) : Int := if n < o then (n : Int) + 1 else 0
set_option maxHeartbeats 8000000 in
theorem fresh_right {o s h r k : Nat} {s5 : Int} (H : (⟨o, s, h, r, k⟩ : Sh).Ok) {w : World} (TB : Tab w) : Calls Tryd.prog 5 #[.agg #[.int .i64 (o : Int), .int .i64 (s : Int), .int .i64 (h : Int), .int .i64 (r : Int), .int .i64 (k : Int), .int .i64 s5]] w fun e w' => e = .returned (.bool true) ∧ Below w.heap.size w w' := by
  obtain ⟨b1, b2, b3, b4, b5, b6, b7, b8, b9, b10⟩ := bnds H
  obtain ⟨i0, zz, hi, hz1, hz2, hz3, hz4⟩ := infoU
  have HT := hide TB
  have z600 := (sizes H).2.2.2.2
  have RF := hide (fun w1 => rfresh_ok (s5 := s5) H w1)
  have FR := hide (fun w1 => fresh_ok (s5 := s5) H w1)
  have OB := hide (fun (n : Nat) (hn : n < o) (w1 : World) => show Calls Tryd.prog 11 #[.agg #[.int .i64 (o : Int), .int .i64 (s : Int), .int .i64 (h : Int), .int .i64 (r : Int), .int .i64 (k : Int), .int .i64 s5], .int .i64 ((n : Int) + 1)] w1 fun e w' => e = .returned (.tuple #[.int .i64 ((bO ⟨o, s, h, r, k⟩ + n * ow ⟨o, s, h, r, k⟩ : Nat) : Int), .int .i64 0]) ∧ Below w1.heap.size w1 w' from by
    have hq : n * (3 + s) ≤ 448 := Nat.le_trans (Nat.mul_le_mul_right _ (by omega)) b7
    have := object_ok (s5 := s5) (a := n + 1) (q := n * (3 + s)) H rfl (by omega) (by omega) (by simp) hq w1
    rw [show ((bO ⟨o, s, h, r, k⟩ + n * ow ⟨o, s, h, r, k⟩ : Nat) : Int) = 8 + (h : Int) + ((h * r : Nat) : Int) + (k : Int) + ((n * (3 + s) : Nat) : Int) from by simp only [bO, bK, bR, ow]; omega]
    rw [show ((n : Int) + 1) = ((n + 1 : Nat) : Int) by omega]; exact this)
  obtain ⟨G, hG⟩ : ∃ G, F ⟨o, s, h, r, k⟩ (o - 1) = G := ⟨_, rfl⟩
  have GF : G 1 = 1 := by rw [← hG]; exact F_free (bO8 _) _
  have GL := hide (show ∀ n, n < o → G (bO ⟨o, s, h, r, k⟩ + n * ow ⟨o, s, h, r, k⟩ + 1) = lk o (n + 1) from fun n hn => by
    rw [← hG, F_link]
    unfold lk
    by_cases e : n + 1 < o
    · rw [if_pos (by omega), if_pos e]; omega
    · rw [if_neg (by omega), if_neg e])
  obtain ⟨z, hz⟩ : ∃ z, size ⟨o, s, h, r, k⟩ = z := ⟨_, rfl⟩
  have ATZ := hide (show ∀ n, n < o → bO ⟨o, s, h, r, k⟩ + n * ow ⟨o, s, h, r, k⟩ + 1 < z from fun n hn => by
    have := at_lt (x := ⟨o, s, h, r, k⟩) hn
    rw [← hz]; unfold size; simp only; omega)
  have hz8 : 8 < z := by rw [← hz]; have := bO8 ⟨o, s, h, r, k⟩; have := (sizes H).2.2.2.1; unfold size; omega
  rw [hG, hz] at RF FR
  rw [hz] at z600
  clear H TB hG hz b6 b7
  obtain ⟨W0, hW0, B0, K⟩ := box w (o : Int) (s : Int) (h : Int) (r : Int) (k : Int) s5
  have HB := hide B0
  obtain ⟨-, l0, x0, x1, x2, x3, x4, x5⟩ := K.out W0 (Below.refl _ _)
  clear B0
  have AW := hide (awake_ok (HT.out.below HB.out HT.out.1))
  go_enter Tryd.func5, Tryd.ntmps5
  go_wp2_with (first
    | (go_at_call 6; refine AW.out.mono ?_; rintro e w1 ⟨rfl, hb1⟩; have HB1 := hide hb1; clear hb1; obtain ⟨-, m1, y0, y1, y2, y3, y4, y5⟩ := K.out w1 HB1.out)
    | (go_at_call 25; refine (RF.out _).mono ?_; rintro e w2 ⟨gw, rfl, rw2, lw2, hb2⟩; have RW2 := hide rw2; have HB12 := hide hb2; have HB2 := hide (HB1.out.trans (hb2.mono HB1.out.size)); have LW := hide lw2; clear hb2 rw2 lw2; obtain ⟨-, m2, u0, u1, u2, u3, u4, u5⟩ := K.out w2 HB2.out)
    | (have hg3 := HB3.out; clear hg3; go_at_call 26; refine (FR.out _).mono ?_; rintro e w4 ⟨gb, rfl, rb4, lb4, hb4⟩; have RB4 := hide rb4; have HB34 := hide hb4; have HB4 := hide (HB3.out.trans (hb4.mono HB3.out.size)); have LB := hide lb4; clear hb4 rb4 lb4; obtain ⟨-, m4, q0, q1, q2, q3, q4, q5⟩ := K.out w4 HB4.out; have RW4 := hide ((RW2.out.below HB23.out).below HB34.out); have RA4 := hide (RA3.out.below HB34.out); have ca1 : w4.cell? ⟨ga, 1, none⟩ = some (.int .u64 (G 1)) := RA4.out.cell (by omega); have lga := RA4.out.lt; have z1 : (1 : Int) < (z : Int) := (by omega); have ga1 : G 1 = 1 := GF)
    | (go_at_call 26; refine (FR.out _).mono ?_; rintro e w3 ⟨ga, rfl, ra3, la3, hb3⟩; have RA3 := hide ra3; have HB23 := hide hb3; have HB3 := hide (HB2.out.trans (hb3.mono HB2.out.size)); have LA := hide la3; clear hb3 ra3 la3; obtain ⟨-, m3, t0, t1, t2, t3, t4, t5⟩ := K.out w3 HB3.out)
    | (go_at_call 27; refine (same_words RA4.out.sees RW4.out.sees (fun _ _ => rfl) (by omega)).mono ?_; rintro e w5 ⟨rfl, mm, rfl⟩; clear y0 y1 y2 y3 y4 y5 u0 u1 u2 u3 u4 u5 t0 t1 t2 t3 t4 t5 x0 x1 x2 x3 x4 x5))
  go_loopw [9, 10] (fun v9 v10 wr => ∃ n : Nat, n ≤ o ∧ v10 = .int .i64 ((n : Int) + 1) ∧ v9 = .int .i64 (lk o n) ∧ Hid (Below w4.heap.size w4 wr)) (fun _ v10 _ => o + 1 - (intOf v10).toNat)
  case atStart => exact ⟨0, Nat.zero_le _, rfl, by unfold lk; rw [if_pos (by omega)]; rfl, below_drewN (Below.refl _ _) mm⟩
  case round =>
    obtain ⟨n, hn, rfl, rfl, HW⟩ := hrel
    clear q0 q1 q2 q3 q4 q5 ca1
    obtain ⟨-, n1, q0, q1, q2, q3, q4, q5⟩ := K.out wr (HB4.out.trans (HW.out.mono HB4.out.size))
    by_cases hlt : n < o
    · have hlt' : (n : Int) + 1 ≤ (o : Int) := by omega
      have el : lk o n = (n : Int) + 1 := if_pos hlt
      rw [el]
      have OBn := hide (fun w1 => OB.out n hlt w1)
      have gl := GL.out n hlt
      have hat := ATZ.out n hlt
      obtain ⟨p, hp⟩ : ∃ p, bO ⟨o, s, h, r, k⟩ + n * ow ⟨o, s, h, r, k⟩ = p := ⟨_, rfl⟩
      rw [hp] at OBn gl hat
      have hat' : (p : Int) + 1 < (z : Int) := by omega
      obtain ⟨l1, hl1⟩ : ∃ l1, lk o (n + 1) = l1 := ⟨_, rfl⟩
      have bl : 0 ≤ l1 ∧ l1 ≤ 100 := by rw [← hl1]; unfold lk; split <;> omega
      have wl : IntKind.i64.wrap l1 = l1 := wI (by omega) (by omega)
      rw [hl1] at gl
      have HL := hide hl1
      clear hl1 hp el
      go_wp2_with (go_at_call 11; refine (OBn.out _).mono ?_; rintro e w6 ⟨rfl, hb6⟩; have HB6 := hide (HW.out.trans (hb6.mono HW.out.size)); clear hb6; have ca : w6.cell? ⟨ga, p + 1, none⟩ = some (.int .u64 l1) := (by rw [← gl]; exact (RA4.out.below HB6.out).cell (by omega)); have lga6 : ga < w6.heap.size := (RA4.out.below HB6.out).lt)
      go_roundw
      case rel => exact ⟨n + 1, by omega, by go_num, by rw [HL.out], HB6.out⟩
      case measure => simp [intOf]; omega
    · have hlt' : ¬ ((n : Int) + 1 ≤ (o : Int)) := by omega
      have e0 : lk o n = 0 := if_neg hlt
      rw [e0]
      clear e0
      obtain ⟨W5, hW5⟩ : ∃ W5, W5 = wr := ⟨_, rfl⟩
      subst hW5
      have RA5 := hide (RA4.out.below HW.out)
      have RB5 := hide (RB4.out.below HW.out)
      have RW5 := hide (RW4.out.below HW.out)
      have NE := hide (show ga ≠ gb ∧ ga ≠ gw ∧ W0.heap.size ≤ ga from ⟨by have := RA3.out.lt; have := LB.out; omega, by have := RW2.out.lt; have := LA.out; omega, Nat.le_trans HB2.out.size LA.out⟩)
      have BW5 := hide (HB4.out.trans (HW.out.mono HB4.out.size))
      go_wp2_with fail
      go_loopw [13] (fun v13 wr => ∃ (q : Nat) (f : Nat → Int), q ≤ z ∧ v13 = .int .i64 (q : Int) ∧ Hid (IsRow wr ga z z f) ∧ Hid (W5.grownBy wr (some ga))) (fun v13 _ => z - (intOf v13).toNat)
      case atStart => exact ⟨0, _, Nat.zero_le _, rfl, RA5.out, grown_refl _ _⟩
      case round =>
        obtain ⟨q, f, hq, rfl, RAq, GQ⟩ := hrel
        by_cases hqz : q < z
        · have hqz' : (q : Int) < (z : Int) := by omega
          have cq := RAq.out.cell hqz
          have fq := RAq.out.frozen q
          have lq := RAq.out.lt
          go_wp2_with fail
          go_roundw
          case rel => exact ⟨q + 1, _, by omega, by go_num, RAq.out.set q 9 ⟨by decide, by decide⟩, grown_setCell GQ.out _ (.inl rfl) _⟩
          case measure => simp [intOf]; omega
        · have hqz' : ¬ ((q : Int) < (z : Int)) := by omega
          obtain ⟨W6, hW6⟩ : ∃ W6, W6 = wr := ⟨_, rfl⟩
          subst hW6
          have RB6 := hide (RB5.out.grown GQ.out (fun e => NE.out.1 (Option.some.inj e).symm))
          have RW6 := hide (RW5.out.grown GQ.out (fun e => NE.out.2.1 (Option.some.inj e).symm))
          have BW6 := hide (BW5.out.trans (grown_below GQ.out BW5.out.size NE.out.2.2))
          have OW6 := hide (row_owns RAq.out NE.out.2.2)
          go_wp2_with fail
          go_loopw [5, 14] (fun v5 v14 wr => ∃ (j : Nat) (ao : Option Addr) (cp : Nat) (xs : List Value), j ≤ 30 ∧ v14 = .int .i64 (j : Int) ∧ v5 = .slice ao (z + j) cp ∧ Hid (wr.ownsRow W0.heap.size 51 1 (.slice ao (z + j) cp) (z + j) xs) ∧ Hid (IsRow wr gb z z G ∧ IsRow wr gw z z G ∧ Below W0.heap.size W0 wr ∧ (Value.slice ao (z + j) cp).ownBlock ≠ some gb ∧ (Value.slice ao (z + j) cp).ownBlock ≠ some gw)) (fun _ v14 _ => 30 - (intOf v14).toNat)
          case atStart => exact ⟨0, _, _, _, by omega, rfl, rfl, OW6.out, RB6.out, RW6.out, BW6.out, by simpa [Value.ownBlock] using NE.out.1, by simpa [Value.ownBlock] using NE.out.2.1⟩
          case round =>
            obtain ⟨j, ao, cp, xs, hj, rfl, rfl, OWj, KJ⟩ := hrel
            by_cases hj30 : j < 30
            · have hj30' : (j : Int) < 30 := by omega
              go_wp2_with (at_builtin; refine wpList_append_own_at _ rfl (.tmp 85) (.tmp 86) 45 rfl W0.heap.size 51 i0 zz 1 8 Tryd.underlying45 hi hz1 hz2 hz3 hz4 (by decide) (.slice ao (z + j) cp) (z + j) xs rfl (OWj.out.alloc _) ⟨wr.heap.size, 0, none⟩ 1 1 [.int .u64 9] rfl (by simp) (fun q u hu => by match q, hu with | 0, hu => (cases hu; simp [Addr.add])) (fun u hu => by simp at hu; subst hu; rfl) (by unfold maxLen; omega) (by omega) (by have := KJ.out.2.2.1.size; simp; omega) ?_; intro v9 w9 hown hgr _ hat; have OW9 := hide hown; have GR9 := hide hgr; have AT9 := hide hat; clear hown hgr hat)
              obtain ⟨ao9, cp9, rfl⟩ := own_slice' OW9.out
              have K9 := hide (show IsRow w9 gb z z G ∧ IsRow w9 gw z z G ∧ Below W0.heap.size W0 w9 ∧ (Value.slice ao9 (z + j + 1) cp9).ownBlock ≠ some gb ∧ (Value.slice ao9 (z + j + 1) cp9).ownBlock ≠ some gw from by
                obtain ⟨k1, k2, k3, k4, k5⟩ := KJ.out
                refine ⟨(k1.alloc _).grown GR9.out (fun e => k4 e.symm), (k2.alloc _).grown GR9.out (fun e => k5 e.symm), ?_, ?_, ?_⟩
                · have HA := k3.alloc k3.size (.cells #[.int .u64 9] 51)
                  refine ⟨GR9.out.os.trans HA.os, GR9.out.tape.trans HA.tape, GR9.out.output.trans HA.output, Nat.le_trans HA.size GR9.out.size, fun q hq => ?_⟩
                  refine (GR9.out.block q (by have := k3.size; simp; omega) (fun e => ?_)).trans (HA.block q hq)
                  have := (OWj.out.lt q e.symm).1
                  omega
                · rcases AT9.out with e | e
                  · rw [e]; exact k4
                  · rw [e]; intro e2; have := Option.some.inj e2; have := k1.lt; simp at *; omega
                · rcases AT9.out with e | e
                  · rw [e]; exact k5
                  · rw [e]; intro e2; have := Option.some.inj e2; have := k2.lt; simp at *; omega)
              go_wp2_with fail
              go_roundw
              case rel => exact ⟨j + 1, ao9, cp9, _, by omega, by go_num, by rfl, OW9.out, K9.out⟩
              case measure => simp [intOf]; omega
            · have e30 : j = 30 := by omega
              subst e30
              have hl30 : (30 : Int) ≤ ((z + 30 : Nat) : Int) := by omega
              go_wp2_with (go_at_call 27; refine (same_words KJ.out.1.sees KJ.out.2.1.sees (fun _ _ => rfl) (by omega)).mono ?_; rintro e w7 ⟨rfl, m7, rfl⟩)
              go_ret
              exact ⟨rfl, below_drewN (K.out _ KJ.out.2.2.1).1 _⟩
theorem shapeFresh_walk {s0 s1 s2 s3 s4 s5 : Int} {w : World} (TB : Tab w) : Calls Tryd.prog 5 #[.agg #[.int .i64 s0, .int .i64 s1, .int .i64 s2, .int .i64 s3, .int .i64 s4, .int .i64 s5]] w fun e w' => e = .returned (.bool true) ∧ Below w.heap.size w w' := by
  by_cases H : R5 s0 s1 s2 s3 s4
  · obtain ⟨o, s, h, r, k, rfl, rfl, rfl, rfl, rfl, H'⟩ := nat_of H
    exact fresh_right H' TB
  · exact fresh_wrong H TB
end Shape
end Go.Proofs.YtfnfoebmpggmdaaDoor
