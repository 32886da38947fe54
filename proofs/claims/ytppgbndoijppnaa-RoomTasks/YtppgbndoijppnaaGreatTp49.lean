/-
  Lemmas: RoomQ, VsS.
-/
import Derived.Test.YtppgbndoijppnaaGreatTp47
import Derived.Test.YtppgbndoijppnaaGreatTp48
import Derived.Test.YtppgbndoijppnaaGreatTp26
namespace Go.Proofs.YtppgbndoijppnaaGreat
set_option maxHeartbeats 8000000
open Go.RowKit
set_option linter.unusedVariables false
set_option linter.unusedSimpArgs false
set_option linter.unnecessarySimpa false
set_option maxRecDepth 20000
section
namespace Rom
open Hp
def sizeOf (sh : Shp) : Int := 8 + sh.c + sh.c * sh.d + sh.e + sh.a * (3 + sh.b)
theorem callSize (args : Array Value) (w : World) : (callFunc 25 args).run Tryz.prog w = .ok (.enter 25 args) w := by simp [go_sem]
theorem size_eq {sh : Shp} {o s hh r k : Nat} (e0 : sh.a = o) (e1 : sh.b = s) (e2 : sh.c = hh) (e3 : sh.d = r) (e4 : sh.e = k) : sizeOf sh = (Shape.size ⟨o, s, hh, r, k⟩ : Nat) := by
 unfold sizeOf Shape.size Shape.bO Shape.bK Shape.bR Shape.ow
 rw [e0, e1, e2, e3, e4]
 push_cast
 rfl
theorem size_ok {sh : Shp} (h : Shape.R5 sh.a sh.b sh.c sh.d sh.e) (w : World) : Calls Tryz.prog 25 #[sh.val] w fun e w' => e = .returned (.tuple #[.int .i64 (sizeOf sh), .int .i64 0]) ∧ w.grownBy w' none := by
 obtain ⟨o, s, hh, r, k, e0, e1, e2, e3, e4, H⟩ := natR5 h
 rw [size_eq e0 e1 e2 e3 e4]
 obtain ⟨s0, s1, s2, s3, s4, s5⟩ := sh
 simp only at e0 e1 e2 e3 e4
 subst e0 e1 e2 e3 e4
 refine (Shape.size_ok (s5 := s5) H w).mono ?_
 rintro e w' ⟨rfl, hb⟩
 exact ⟨rfl, below_grown hb none⟩
theorem size_nat {sh : Shp} (h : Shape.R5 sh.a sh.b sh.c sh.d sh.e) : ∃ want : Nat, (want : Int) = sizeOf sh ∧ 13 ≤ want ∧ want ≤ 600 := by
 obtain ⟨o, s, hh, r, k, e0, e1, e2, e3, e4, H⟩ := natR5 h
 refine ⟨_, (size_eq e0 e1 e2 e3 e4).symm, ?_, ?_⟩
 ·have := Shape.sizes H
  unfold Shape.size Shape.bO Shape.bK Shape.bR
  have h1 : 1 ≤ hh := H.h1
  simp only at this ⊢
  omega
 ·exact (Shape.sizes H).2.2.2.2
variable {w : World} {ao aoh aos : Option Addr} {cap caph caps : Nat} {P : Par} {f : Nat → Int} {most : Int} {sh : Shp}
theorem play_any {R : Ending → World → Prop} {Q : Ending → World → Prop}
  (h : Calls Tryz.prog 24 #[.func (.func 25) #[] #[], .func (.func 26) #[] #[], sh.val, .slice ao P.n cap, .slice aoh P.nh caph, .slice aos P.ns caps, .int .i64 most]
   ((w.alloc (.cells #[.int .i64 sh.a, .int .i64 sh.b, .int .i64 sh.c, .int .i64 sh.d, .int .i64 sh.e, .int .i64 sh.f] 23)).alloc (.cells #[.slice none 0 0, .slice none 0 0, .bool false] 32)) Q)
  (hs : ∀ e w', Q e w' → Below (w.heap.size + 2) ((w.alloc (.cells #[.int .i64 sh.a, .int .i64 sh.b, .int .i64 sh.c, .int .i64 sh.d, .int .i64 sh.e, .int .i64 sh.f] 23)).alloc (.cells #[.slice none 0 0, .slice none 0 0, .bool false] 32)) w' ∧
   ∃ sa k sc wa n wc en aa m ac er, e = .returned (tv3 sa k sc wa n wc en aa m ac er) ∧ R e (((w'.setCell ⟨w.heap.size + 1, 0, none⟩ (.slice sa k sc)).setCell ⟨w.heap.size + 1, 1, none⟩ (.slice wa n wc)).setCell ⟨w.heap.size + 1, 2, none⟩ (.bool en))) :
  Calls Tryz.prog 9 #[sh.val, .slice ao P.n cap, .slice aoh P.nh caph, .slice aos P.ns caps, .int .i64 most] w R := by
 obtain ⟨s0, s1, s2, s3, s4, s5⟩ := sh
 simp only [Shp.val] at h hs ⊢
 have HH := hide h
 have HS := hide hs
 clear h hs
 go_enter Tryz.func9, Tryz.ntmps9
 go_wp2_with fail
 refine HH.out.mono ?_
 intro e w3 hq
 obtain ⟨hb, sa, k, sc, wa, n, wc, en, aa, m, ac, er, rfl, hR⟩ := HS.out e w3 hq
 have u0 := hb.cell (p := ⟨w.heap.size + 1, 0, none⟩) (by simp)
 have u1 := hb.cell (p := ⟨w.heap.size + 1, 1, none⟩) (by simp)
 have u2 := hb.cell (p := ⟨w.heap.size + 1, 2, none⟩) (by simp)
 have v0 := hb.frozen (p := ⟨w.heap.size + 1, 0, none⟩) (by simp)
 have v1 := hb.frozen (p := ⟨w.heap.size + 1, 1, none⟩) (by simp)
 have v2 := hb.frozen (p := ⟨w.heap.size + 1, 2, none⟩) (by simp)
 simp at u0 u1 u2 v0 v1 v2
 have HR := hide hR
 clear hb hR hq
 unfold tv3
 go_wp2_with fail
 go_light
 refine bodyPost_ret (v := tv3 sa k sc wa n wc en aa m ac er) ?_ rfl HR.out
 simp [results, Tryz.results9, go_sem, tv3, *]
theorem play_all {want : Nat} (h5 : Shape.R5 sh.a sh.b sh.c sh.d sh.e) (hwant : (want : Int) = sizeOf sh) (S : Sees w w.heap.size ao P.n f) (hf : ∀ i, i < P.n → 0 ≤ f i ∧ f i ≤ 18446744073709551615) (SH : SeesH w w.heap.size aoh P.nh P.jn P.jb) (hn63 : P.nh ≤ 9223372036854775807) (SI : SeesI w w.heap.size aos P.ns P.sched) (hjw : ∀ h, h < P.nh → ∀ j, j < P.jn h → (P.jb h j).wf) :
  Calls Tryz.prog 9 #[sh.val, .slice ao P.n cap, .slice aoh P.nh caph, .slice aos P.ns caps, .int .i64 most] w (LAll (kRom false sh) want w P f most) := by
 have b0 : Below w.heap.size w ((w.alloc (.cells #[.int .i64 sh.a, .int .i64 sh.b, .int .i64 sh.c, .int .i64 sh.d, .int .i64 sh.e, .int .i64 sh.f] 23)).alloc (.cells #[.slice none 0 0, .slice none 0 0, .bool false] 32)) := ((Below.refl _ w).alloc (Nat.le_refl _) _).alloc (by simp) _
 have sz0 : ((w.alloc (.cells #[.int .i64 sh.a, .int .i64 sh.b, .int .i64 sh.c, .int .i64 sh.d, .int .i64 sh.e, .int .i64 sh.f] 23)).alloc (.cells #[.slice none 0 0, .slice none 0 0, .bool false] 32)).heap.size = w.heap.size + 2 := by simp
 refine play_any (lay_any (K := kRom false sh) (want := want) callSize (fun w' => by rw [hwant]; exact size_ok h5 w') (isKind h5) (fun w' tb sb H => makes h5 H) ((S.below b0 (Nat.le_refl _)).mono (by omega)) hf ((SH.below b0 (Nat.le_refl _)).up (by omega)) hn63 ((SI.below b0 (Nat.le_refl _)).up (by omega)) hjw) ?_
 intro e w' hq
 obtain ⟨sa, k, sc, wa, n, wc, en, aa, m, ac, er, rfl⟩ := hq.shape
 have hb := hq.1
 rw [sz0] at hb
 exact ⟨hb, sa, k, sc, wa, n, wc, en, aa, m, ac, er, rfl, hq.up b0 (touch3 w' (w.heap.size + 1) (.slice sa k sc) (.slice wa n wc) (.bool en)) (by omega) (by omega)⟩
end Rom
end
section
namespace Shape
def F (x : Sh) : Nat → Nat → Int
 | 0 => putF (fun _ => 0) 1 1
 | m + 1 => putF (F x m) (bO x + m * ow x + 1) ((m : Int) + 2)
theorem bO8 (x : Sh) : 8 ≤ bO x := by unfold bO bK bR; omega
theorem ow3 (x : Sh) : 3 ≤ ow x := by unfold ow; omega
theorem at_lt {x : Sh} {i j : Nat} (h : i < j) : i * ow x + 3 ≤ j * ow x := by
 have : (i + 1) * ow x ≤ j * ow x := Nat.mul_le_mul_right _ h
 rw [Nat.add_mul] at this
 have := ow3 x
 omega
theorem run_make_z {P : Program} (t e : TypeId) (zc : Array Value) (size bytes : Nat) (ht : P.underlying t = some (.slice e)) (hinfo : (P.info? e).map (fun i => (i.zero.map Value.cells, i.size, i.bytes)) = some (some zc, size, bytes))
  (n : Nat) (hbytes : bytes * n ≤ 281474976710656) (h63 : n ≤ 9223372036854775807) (w : World) :
  (Instr.makeSlice t (.int .i64 (n : Int)) (.int .i64 (n : Int))).run P w = .ok (.slice (some ⟨w.heap.size, 0, none⟩) n n) (w.alloc (.cells (madeCells zc (n * size)) e)) := by
 obtain ⟨i, hi, hzz⟩ := Option.map_eq_some_iff.1 hinfo
 simp only [Prod.mk.injEq] at hzz
 obtain ⟨hz, hs, hb⟩ := hzz
 obtain ⟨z, hz, hzc⟩ := Option.map_eq_some_iff.1 hz
 have hbi : (i.bytes : Int) * (n : Int) ≤ 281474976710656 := by
  rw [hb]
  have h : ((bytes * n : Nat) : Int) ≤ 281474976710656 := by omega
  rwa [Int.natCast_mul] at h
 have hr := run_make (P := P) w t e i z ht hi hz .i64 .i64 n n (by omega) (Int.le_refl _) hbi (by omega)
 simpa [hs, hzc] using hr
theorem tagged_one (w : World) : Calls Tryz.prog 43 #[.int .i64 1, .int .u64 0] w fun e w' => e = .returned (.int .u64 1) ∧ w' = w := by
 go_enter Tryz.func43, Tryz.ntmps43
 go_wp2
 go_ret
 exact ⟨by rfl, rfl⟩
theorem mk_row (w : World) (n : Nat) (hn : n ≤ 600) : IsRow (w.alloc (.cells (madeCells #[.int .u64 0] n) 50)) w.heap.size n n (fun _ => 0) := by
 refine ⟨Nat.le_refl _, by unfold maxLen; omega, ⟨fun _ => .int .u64 0, ?_, fun _ _ => rfl⟩, fun _ _ => ⟨Int.le_refl 0, by show (0 : Int) ≤ 18446744073709551615; decide⟩⟩
 exact World.rowIs_made w (.int .u64 0) n 50
theorem fresh_ok {o s h r k : Nat} {s5 : Int} (H : (⟨o, s, h, r, k⟩ : Sh).Ok) (w : World) : Calls Tryz.prog 22 #[.agg #[.int .i64 (o : Int), .int .i64 (s : Int), .int .i64 (h : Int), .int .i64 (r : Int), .int .i64 (k : Int), .int .i64 s5]] w fun e w' => ∃ g, e = .returned (.tuple #[.slice (some ⟨g, 0, none⟩) (size ⟨o, s, h, r, k⟩) (size ⟨o, s, h, r, k⟩), .int .i64 0]) ∧ IsRow w' g (size ⟨o, s, h, r, k⟩) (size ⟨o, s, h, r, k⟩) (F ⟨o, s, h, r, k⟩ (o - 1)) ∧ w.heap.size ≤ g ∧ Below w.heap.size w w' := by
 obtain ⟨b1, b2, b3, b4, b5, b6, b7, b8, b9, b10⟩ := bnds H
 have SZ := hide (fun w1 => size_ok (s5 := s5) H w1)
 have z600 := (sizes H).2.2.2.2
 obtain ⟨z, hz⟩ : ∃ z, size ⟨o, s, h, r, k⟩ = z := ⟨_, rfl⟩
 have ATZ := hide (show ∀ m, m + 1 < o → bO ⟨o, s, h, r, k⟩ + m * ow ⟨o, s, h, r, k⟩ + 1 < z from fun m hm => by
  have := at_lt (x := ⟨o, s, h, r, k⟩) (show m < o by omega)
  rw [← hz]; unfold size; simp only; omega)
 have hz8 : 8 < z := by rw [← hz]; have := bO8 ⟨o, s, h, r, k⟩; have := (sizes H).2.2.2.1; unfold size; omega
 have HOK := hide H
 rw [hz] at SZ z600
 rw [hz]
 have hmk := run_make_z (P := Tryz.prog) 24 50 _ 1 8 Tryz.underlying24 info46 z (by omega) (by omega)
 simp only [Nat.mul_one] at hmk
 have OA := hide (fun (m : Nat) (hm : m + 1 < o) (w1 : World) => show Calls Tryz.prog 42 #[.agg #[.int .i64 (o : Int), .int .i64 (s : Int), .int .i64 (h : Int), .int .i64 (r : Int), .int .i64 (k : Int), .int .i64 s5], .int .i64 ((m : Int) + 1)] w1 fun e w' => e = .returned (.int .i64 ((bO ⟨o, s, h, r, k⟩ + m * ow ⟨o, s, h, r, k⟩ : Nat) : Int)) ∧ Below w1.heap.size w1 w' from by
  have hq : m * (3 + s) ≤ 448 := Nat.le_trans (Nat.mul_le_mul_right _ (by omega)) b7
  have := objectAt_any (o := o) (s := s) (h := h) (r := r) (k := k) (s5 := s5) (i := m + 1) (q := m * (3 + s)) b3 b2 b5 rfl b6 (by omega) (by omega) (by simp) hq w1
  rw [show ((bO ⟨o, s, h, r, k⟩ + m * ow ⟨o, s, h, r, k⟩ : Nat) : Int) = 8 + (h : Int) + ((h * r : Nat) : Int) + (k : Int) + ((m * (3 + s) : Nat) : Int) from by simp only [bO, bK, bR, ow]; omega]
  rw [show ((m : Int) + 1) = ((m + 1 : Nat) : Int) by omega]; exact this)
 clear H hz b6 b7
 obtain ⟨W0, hW0, B0, K⟩ := box w (o : Int) (s : Int) (h : Int) (r : Int) (k : Int) s5
 have HB := hide B0
 obtain ⟨-, l0, x0, x1, x2, x3, x4, x5⟩ := K.out W0 (Below.refl _ _)
 clear B0
 go_enter Tryz.func22, Tryz.ntmps22
 go_wp2_with (first | (go_at_call 25; refine (SZ.out _).mono ?_; rintro e w1 ⟨rfl, hb1⟩; have HB1 := hide hb1; clear hb1; obtain ⟨-, m1, y0, y1, y2, y3, y4, y5⟩ := K.out w1 HB1.out; have R1 := hide (mk_row w1 z z600); have c1 : (w1.alloc (.cells (madeCells #[.int .u64 0] z) 50)).cell? ⟨w1.heap.size, 1, none⟩ = some (.int .u64 0) := R1.out.cell (by omega); have fz1 := R1.out.frozen 1) | (go_at_call 43; refine (tagged_one _).mono ?_; rintro e wq ⟨rfl, hwq⟩; obtain rfl := hwq.symm))
 go_loopw [7] (fun v wr => ∃ m : Nat, m + 1 ≤ o ∧ v = .int .i64 ((m + 1 : Nat) : Int) ∧ Hid (IsRow wr w1.heap.size z z (F ⟨o, s, h, r, k⟩ m)) ∧ Hid (Below w1.heap.size w1 wr)) (fun v _ => o - (intOf v).toNat)
 case atStart =>
  have e0 := R1.out.set 1 1 ⟨by decide, by decide⟩
  have e1 : (w1.alloc (.cells (madeCells #[.int .u64 0] z) 50)).setCell ⟨w1.heap.size, 1, none⟩ (.int .u64 1) = w1.alloc (.cells ((madeCells #[.int .u64 0] z).setIfInBounds 1 (.int .u64 1)) 50) := World.setCell_alloc_at _ _ _ _ _ rfl
  rw [e1] at e0
  exact ⟨0, by omega, rfl, e0, (Below.refl _ w1).alloc (Nat.le_refl _) _⟩
 case round =>
  obtain ⟨m, hm, rfl, HR, HW⟩ := hrel
  have HBr := hide (HB1.out.trans (HW.out.mono HB1.out.size))
  obtain ⟨-, n1, u0, u1, u2, u3, u4, u5⟩ := K.out wr HBr.out
  have eo : ((m + 1 : Nat) : Int) = (m : Int) + 1 := by omega
  rw [eo]
  by_cases hlt : m + 1 < o
  ·have hlt' : (m : Int) + 1 < (o : Int) := by omega
   have hat := ATZ.out m hlt
   have OB := hide (fun w2 => OA.out m hlt w2)
   obtain ⟨p, hp⟩ : ∃ p, bO ⟨o, s, h, r, k⟩ + m * ow ⟨o, s, h, r, k⟩ = p := ⟨_, rfl⟩
   rw [hp] at OB hat
   have hat' : (p : Int) + 1 < (z : Int) := by omega
   have wu : IntKind.u64.wrap ((m : Int) + 1 + 1) = (m : Int) + 2 := by rw [IntKind.wrap_u64]; omega
   have wu2 : IntKind.u64.wrap ((m : Int) + 2) = (m : Int) + 2 := by rw [IntKind.wrap_u64]; omega
   clear y0 y1 y2 y3 y4 y5 c1 fz1 hmk
   go_wp2_with (go_at_call 42; refine (OB.out _).mono ?_; rintro e w2 ⟨rfl, hb2⟩; have HB2 := hide hb2; have R2 := hide (HR.out.below hb2); have c2 : w2.cell? ⟨w1.heap.size, p + 1, none⟩ = some (.int .u64 (F ⟨o, s, h, r, k⟩ m (p + 1))) := R2.out.cell (by omega); have fz2 := R2.out.frozen (p + 1); have lg := R2.out.lt; clear hb2)
   go_roundw
   case rel =>
    refine ⟨m + 1, by omega, by go_num, ?_, ?_⟩
    ·have e : F ⟨o, s, h, r, k⟩ (m + 1) = putF (F ⟨o, s, h, r, k⟩ m) (p + 1) ((m : Int) + 2) := by rw [← hp]; rfl
     rw [e]
     exact R2.out.set (p + 1) ((m : Int) + 2) ⟨by omega, by omega⟩
    ·exact (HW.out.trans (HB2.out.mono HW.out.size)).setCell (Nat.le_refl _) _
   case measure => simp [intOf]; omega
  ·have hlt' : ¬ ((m : Int) + 1 < (o : Int)) := by omega
   have em : m = o - 1 := by omega
   clear y0 y1 y2 y3 y4 y5 c1 fz1 hmk
   go_wp2_with fail
   go_ret2
   exact ⟨w1.heap.size, rfl, by rw [← em]; exact HR.out, (K.out _ HB1.out).1.size, (K.out _ HBr.out).1⟩
end Shape
end
end Go.Proofs.YtppgbndoijppnaaGreat
