/-
  Lemmas: ShadeQ, ShadeL, LtR, VsF, VsR, ShadeRP.
-/
import Derived.Test.YtnodkeoikamonaaGreatTq34
import Derived.Test.YtnodkeoikamonaaGreatTq19
import Derived.Test.YtnodkeoikamonaaGreatTq23
import Derived.Orders
import Derived.Test.YtnodkeoikamonaaGreatTq26
import Derived.Test.YtnodkeoikamonaaGreatTq31
/-
  Shade's Play, whatever it is given.
-/
namespace Go.Proofs.YtnodkeoikamonaaGreat
open Go.RowKit
set_option linter.unusedVariables false
set_option linter.unusedSimpArgs false
set_option maxRecDepth 20000
namespace Shd
def sizeOf (sh : Shp) : Int := 8 + sh.c + sh.c * sh.d + sh.e + sh.a * (3 + sh.b)
theorem callSize (args : Array Value) (w : World) : (callFunc 15 args).run Tryz.prog w = .ok (.enter 15 args) w := by simp [go_sem]
theorem size_eq {sh : Shp} {o s hh r k : Nat} (e0 : sh.a = o) (e1 : sh.b = s) (e2 : sh.c = hh) (e3 : sh.d = r) (e4 : sh.e = k) : sizeOf sh = (Shape.size ⟨o, s, hh, r, k⟩ : Nat) := by
  unfold sizeOf Shape.size Shape.bO Shape.bK Shape.bR Shape.ow
  rw [e0, e1, e2, e3, e4]
  push_cast
  rfl
theorem size_ok {sh : Shp} (h : Shape.R5 sh.a sh.b sh.c sh.d sh.e) (w : World) : Calls Tryz.prog 15 #[sh.val] w fun e w' => e = .returned (.tuple #[.int .i64 (sizeOf sh), .int .i64 0]) ∧ w.grownBy w' none := by
  obtain ⟨o, s, hh, r, k, e0, e1, e2, e3, e4, H⟩ := natR5 h
  rw [size_eq e0 e1 e2 e3 e4]
  obtain ⟨s0, s1, s2, s3, s4, s5⟩ := sh
  simp only at e0 e1 e2 e3 e4
  subst e0 e1 e2 e3 e4
  refine (Shape.size_ok (s5 := s5) H w).mono ?_
  rintro e w' ⟨rfl, hb⟩
  exact ⟨rfl, below_grown hb none⟩
theorem size_bad {sh : Shp} (h : ¬ Shape.R5 sh.a sh.b sh.c sh.d sh.e) (w : World) : Calls Tryz.prog 15 #[sh.val] w fun e w' => e = .returned (.tuple #[.int .i64 0, .int .i64 120]) ∧ w.grownBy w' none := by
  refine (Shape.size_bad h w).mono ?_
  rintro e w' ⟨rfl, hb⟩
  exact ⟨rfl, below_grown hb none⟩
theorem size_nat {sh : Shp} (h : Shape.R5 sh.a sh.b sh.c sh.d sh.e) : ∃ want : Nat, (want : Int) = sizeOf sh ∧ 13 ≤ want ∧ want ≤ 600 := by
  obtain ⟨o, s, hh, r, k, e0, e1, e2, e3, e4, H⟩ := natR5 h
  refine ⟨_, (size_eq e0 e1 e2 e3 e4).symm, ?_, ?_⟩
  · have := Shape.sizes H
    unfold Shape.size Shape.bO Shape.bK Shape.bR
    have h1 : 1 ≤ hh := H.h1
    simp only at this ⊢
    omega
  · exact (Shape.sizes H).2.2.2.2
variable {w : World} {ao aoh aos : Option Addr} {cap caph caps : Nat} {P : Par} {f : Nat → Int} {most : Int} {sh : Shp}
theorem play_any {R : Ending → World → Prop} {Q : Ending → World → Prop}
    (h : Calls Tryz.prog 24 #[.func (.func 15) #[] #[], .func (.func 25) #[] #[], sh.val, .slice ao P.n cap, .slice aoh P.nh caph, .slice aos P.ns caps, .int .i64 most]
      ((w.alloc (.cells #[.int .i64 sh.a, .int .i64 sh.b, .int .i64 sh.c, .int .i64 sh.d, .int .i64 sh.e, .int .i64 sh.f] 23)).alloc (.cells #[.slice none 0 0, .slice none 0 0, .bool false] 32)) Q)
    (hs : ∀ e w', Q e w' → Below (w.heap.size + 2) ((w.alloc (.cells #[.int .i64 sh.a, .int .i64 sh.b, .int .i64 sh.c, .int .i64 sh.d, .int .i64 sh.e, .int .i64 sh.f] 23)).alloc (.cells #[.slice none 0 0, .slice none 0 0, .bool false] 32)) w' ∧
      ∃ sa k sc wa n wc en aa m ac er, e = .returned (tv3 sa k sc wa n wc en aa m ac er) ∧ R e (((w'.setCell ⟨w.heap.size + 1, 0, none⟩ (.slice sa k sc)).setCell ⟨w.heap.size + 1, 1, none⟩ (.slice wa n wc)).setCell ⟨w.heap.size + 1, 2, none⟩ (.bool en))) :
    Calls Tryz.prog 10 #[sh.val, .slice ao P.n cap, .slice aoh P.nh caph, .slice aos P.ns caps, .int .i64 most] w R := by
  obtain ⟨s0, s1, s2, s3, s4, s5⟩ := sh
  simp only [Shp.val] at h hs ⊢
  have HH := hide h
  have HS := hide hs
  clear h hs
  go_enter Tryz.func10, Tryz.ntmps10
  go_wp2_with fail
  refine HH.out.mono ?_
  intro e w3 hq
  obtain ⟨hb, sa, k, sc, wa, n, wc, en, aa, m, ac, er, rfl, hR⟩ := HS.out e w3 hq
  have u0 := hb.cell (p := ⟨w.heap.size + 1, 0, none⟩) (by simp)
  have u1 := hb.cell (p := ⟨w.heap.size + 1, 1, none⟩) (by simp)
  have u2 := hb.cell (p := ⟨w.heap.size + 1, 2, none⟩) (by simp)
  have v0 := hb.frozen (p := ⟨w.heap.size + 1, 0, none⟩) (by simp)
  have v1 := hb.frozen (p := ⟨w.heap.size + 1, 1, none⟩) (by simp)
  have v2 := hb.frozen (p := ⟨w.heap.size + 1, 2, none⟩) (by simp)
  simp at u0 u1 u2 v0 v1 v2
  have HR := hide hR
  clear hb hR hq
  unfold tv3
  go_wp2_with fail
  go_light
  refine bodyPost_ret (v := tv3 sa k sc wa n wc en aa m ac er) ?_ rfl HR.out
  simp [results, Tryz.results10, go_sem, tv3, *]
theorem play_all {want : Nat} (h5 : Shape.R5 sh.a sh.b sh.c sh.d sh.e) (hwant : (want : Int) = sizeOf sh) (S : Sees w w.heap.size ao P.n f) (hf : ∀ i, i < P.n → 0 ≤ f i ∧ f i ≤ 18446744073709551615) (SH : SeesH w w.heap.size aoh P.nh P.jn P.jb) (hn63 : P.nh ≤ 9223372036854775807) (SI : SeesI w w.heap.size aos P.ns P.sched) (hjw : ∀ h, h < P.nh → ∀ j, j < P.jn h → (P.jb h j).wf) :
    Calls Tryz.prog 10 #[sh.val, .slice ao P.n cap, .slice aoh P.nh caph, .slice aos P.ns caps, .int .i64 most] w (LAll (kShd false sh) want w P f most) := by
  have b0 : Below w.heap.size w ((w.alloc (.cells #[.int .i64 sh.a, .int .i64 sh.b, .int .i64 sh.c, .int .i64 sh.d, .int .i64 sh.e, .int .i64 sh.f] 23)).alloc (.cells #[.slice none 0 0, .slice none 0 0, .bool false] 32)) := ((Below.refl _ w).alloc (Nat.le_refl _) _).alloc (by simp) _
  have sz0 : ((w.alloc (.cells #[.int .i64 sh.a, .int .i64 sh.b, .int .i64 sh.c, .int .i64 sh.d, .int .i64 sh.e, .int .i64 sh.f] 23)).alloc (.cells #[.slice none 0 0, .slice none 0 0, .bool false] 32)).heap.size = w.heap.size + 2 := by simp
  refine play_any (lay_any (K := kShd false sh) (want := want) callSize (fun w' => by rw [hwant]; exact size_ok h5 w') (isKind h5) (fun w' tb sb H => makes h5 H) ((S.below b0 (Nat.le_refl _)).mono (by omega)) hf ((SH.below b0 (Nat.le_refl _)).up (by omega)) hn63 ((SI.below b0 (Nat.le_refl _)).up (by omega)) hjw) ?_
  intro e w' hq
  obtain ⟨sa, k, sc, wa, n, wc, en, aa, m, ac, er, rfl⟩ := hq.shape
  have hb := hq.1
  rw [sz0] at hb
  exact ⟨hb, sa, k, sc, wa, n, wc, en, aa, m, ac, er, rfl, hq.up b0 (touch3 w' (w.heap.size + 1) (.slice sa k sc) (.slice wa n wc) (.bool en)) (by omega) (by omega)⟩
end Shd
end Go.Proofs.YtnodkeoikamonaaGreat
/-
  Shade: the statements' own example.
-/
namespace Go.Proofs.YtnodkeoikamonaaGreat
open Go.RowKit
set_option linter.unusedVariables false
set_option linter.unusedSimpArgs false
set_option maxRecDepth 20000
namespace Shd
def f0 : Nat → Int := fun i => if i = 10 then 1 else 0
theorem f0_bd (i : Nat) : 0 ≤ f0 i ∧ f0 i ≤ 18446744073709551615 := by unfold f0; split <;> omega
namespace Exam
def P0 : Par := { n := 13, nh := 1, jn := fun _ => 2, jb := fun _ j => if j = 0 then ⟨1, 0, 0, 1, 1⟩ else ⟨2, 0, 0, 0, 0⟩, ns := 0, sched := fun _ => 0 }
def s9 : St (kShd false ⟨1, 0, 1, 1, 0, 0⟩) := runSt P0 (st0 (kShd false ⟨1, 0, 1, 1, 0, 0⟩) P0 f0) 99
theorem k9 : s9.k = 8 := by decide +kernel
theorem e9 : Go.Proofs.YtnodkeoikamonaaGreat.cnt (s9.going P0) P0.nh = 0 := by decide +kernel
theorem d9 : s9.done 0 = 2 := by decide +kernel
theorem a1 : (s9.ans 0 1).val = 1 ∧ (s9.ans 0 1).ok = true := by decide +kernel
theorem w9 : s9.f 10 = 3 := by decide +kernel
end Exam
set_option maxHeartbeats 4000000 in
theorem small_any (w : World) : Calls Tryz.prog 21 #[] w fun e w' => ∃ g, e = .returned (.tuple #[.agg #[.int .i64 1, .int .i64 0, .int .i64 1, .int .i64 1, .int .i64 0, .int .i64 0], .slice (some ⟨g, 0, none⟩) 13 13]) ∧ IsRow w' g 13 13 f0 ∧ w.heap.size ≤ g ∧ Below w.heap.size w w' := by
  go_enter Tryz.func21, Tryz.ntmps21
  go_wp2
  refine bodyPost_ret (v := .tuple #[.agg #[.int .i64 1, .int .i64 0, .int .i64 1, .int .i64 1, .int .i64 0, .int .i64 0], .slice (some ⟨w.heap.size + 1, 0, none⟩) 13 13]) ?res rfl ⟨w.heap.size + 1, rfl, ?row, by omega, ((Below.refl _ w).alloc (Nat.le_refl _) _).alloc (by simp) _⟩
  case res => simp [results, Tryz.results21, go_sem]
  case row =>
    refine ⟨Nat.le_refl _, by unfold maxLen; omega, ⟨fun i => .int .u64 (f0 i), ?_, fun i hi => rfl⟩, fun i _ => f0_bd i⟩
    have := World.rowIs_alloc' (w.alloc (.cells #[.int .i64 1, .int .i64 0, .int .i64 1, .int .i64 1, .int .i64 0, .int .i64 0] 23)) #[.int .u64 0, .int .u64 0, .int .u64 0, .int .u64 0, .int .u64 0, .int .u64 0, .int .u64 0, .int .u64 0, .int .u64 0, .int .u64 0, .int .u64 1, .int .u64 0, .int .u64 0] 50 13 (f := fun i => .int .u64 (f0 i)) rfl (fun i hi => by
      match i, hi with
      | 0, _ | 1, _ | 2, _ | 3, _ | 4, _ | 5, _ | 6, _ | 7, _ | 8, _ | 9, _ | 10, _ | 11, _ | 12, _ => rfl)
    rwa [World.size_alloc] at this
theorem exam_play (v : World) (g : Nat) (R : IsRow v g 13 13 f0) (hgl : g < v.heap.size) : Calls Tryz.prog 10 #[(⟨1, 0, 1, 1, 0, 0⟩ : Shp).val, .slice (some ⟨g, 0, none⟩) 13 13, .slice (some ⟨v.heap.size + 1, 0, none⟩) 1 1, .slice none 0 0, .int .i64 99]
    ((v.alloc (.cells #[.int .i64 1, .int .i64 0, .int .i64 0, .int .i64 1, .int .u64 1, .int .i64 2, .int .i64 0, .int .i64 0, .int .i64 0, .int .u64 0] 52)).alloc (.cells #[.slice (some ⟨v.heap.size, 0, none⟩) 2 2] 60)) (LAll (kShd false ⟨1, 0, 1, 1, 0, 0⟩) 13 ((v.alloc (.cells #[.int .i64 1, .int .i64 0, .int .i64 0, .int .i64 1, .int .u64 1, .int .i64 2, .int .i64 0, .int .i64 0, .int .i64 0, .int .u64 0] 52)).alloc (.cells #[.slice (some ⟨v.heap.size, 0, none⟩) 2 2] 60)) Exam.P0 f0 99) := by
  have B0 : Below v.heap.size v ((v.alloc (.cells #[.int .i64 1, .int .i64 0, .int .i64 0, .int .i64 1, .int .u64 1, .int .i64 2, .int .i64 0, .int .i64 0, .int .i64 0, .int .u64 0] 52)).alloc (.cells #[.slice (some ⟨v.heap.size, 0, none⟩) 2 2] 60)) := ((Below.refl _ v).alloc (Nat.le_refl _) _).alloc (by simp) _
  have R1 := (row_arr v #[.int .i64 1, .int .i64 0, .int .i64 0, .int .i64 1, .int .u64 1, .int .i64 2, .int .i64 0, .int .i64 0, .int .i64 0, .int .u64 0] 52).alloc (.cells #[.slice (some ⟨v.heap.size, 0, none⟩) 2 2] 60)
  have R3 := row_arr (v.alloc (.cells #[.int .i64 1, .int .i64 0, .int .i64 0, .int .i64 1, .int .u64 1, .int .i64 2, .int .i64 0, .int .i64 0, .int .i64 0, .int .u64 0] 52)) #[.slice (some ⟨v.heap.size, 0, none⟩) 2 2] 60
  simp only [World.size_alloc] at R1 R3
  refine play_all (sh := ⟨1, 0, 1, 1, 0, 0⟩) (P := Exam.P0) (f := f0) (most := 99) (want := 13) (by unfold Shape.R5; decide) (by decide) ?_ (fun i _ => f0_bd i) ?_ (by decide) ?_ (fun h _ j _ => ?_)
  · exact (R.sees.below B0 (Nat.le_refl _)).mono (by simp; omega)
  · intro h hh
    have : h < 1 := hh
    match h, this with
    | 0, _ =>
      refine ⟨v.heap.size + 1, 0, some ⟨v.heap.size, 0, none⟩, 2, rfl, R3.lt, R3.cell (i := 0) (by simp), ?_⟩
      intro i hi
      refine ⟨v.heap.size, 0, rfl, R1.lt, fun q hq => ?_⟩
      have : i < 2 := hi
      match i, this, q, hq with
      | 0, _, 0, _ => exact R1.cell (i := 0) (by decide)
      | 0, _, 1, _ => exact R1.cell (i := 1) (by decide)
      | 0, _, 2, _ => exact R1.cell (i := 2) (by decide)
      | 0, _, 3, _ => exact R1.cell (i := 3) (by decide)
      | 0, _, 4, _ => exact R1.cell (i := 4) (by decide)
      | 1, _, 0, _ => exact R1.cell (i := 5) (by decide)
      | 1, _, 1, _ => exact R1.cell (i := 6) (by decide)
      | 1, _, 2, _ => exact R1.cell (i := 7) (by decide)
      | 1, _, 3, _ => exact R1.cell (i := 8) (by decide)
      | 1, _, 4, _ => exact R1.cell (i := 9) (by decide)
  · intro j hj
    exact absurd hj (Nat.not_lt_zero j)
  · simp only [Exam.P0, Jb.wf]
    repeat' split
    all_goals decide
set_option maxHeartbeats 4000000 in
theorem awake_any (w : World) : Calls Tryz.prog 5 #[] w fun e w' => e = .returned (.bool true) ∧ Below w.heap.size w w' := by
  have SM := hide (fun w' : World => small_any w')
  have EX := hide exam_play
  simp only [Shp.val] at EX
  go_enter Tryz.func5, Tryz.ntmps5
  go_wp2_with fail
  refine (SM.out _).mono ?_
  rintro e w1 ⟨g, rfl, hr1, hg1, hb1⟩
  have HR1 := hide hr1
  have HB1 := hide hb1
  clear hr1 hb1
  go_upto_region 2 with (fail)
  have hr1 := HR1.out
  have hb1 := HB1.out
  clear HR1 HB1
  obtain ⟨W0, hW0⟩ : ∃ W0, w1.alloc (.cells #[.int .i64 1, .int .i64 0, .int .i64 1, .int .i64 1, .int .i64 0, .int .i64 0] 23) = W0 := ⟨_, rfl⟩
  have R0 : W0.rowIs w1.heap.size 23 6 (fun i => (#[Value.int .i64 1, .int .i64 0, .int .i64 1, .int .i64 1, .int .i64 0, .int .i64 0]).getD i undef) := by rw [← hW0]; exact row_arr w1 _ _
  have c0 : W0.cell? ⟨w1.heap.size, 0, none⟩ = some (.int .i64 1) := R0.cell (i := 0) (by decide)
  have c1 : W0.cell? ⟨w1.heap.size, 1, none⟩ = some (.int .i64 0) := R0.cell (i := 1) (by decide)
  have c2 : W0.cell? ⟨w1.heap.size, 2, none⟩ = some (.int .i64 1) := R0.cell (i := 2) (by decide)
  have c3 : W0.cell? ⟨w1.heap.size, 3, none⟩ = some (.int .i64 1) := R0.cell (i := 3) (by decide)
  have c4 : W0.cell? ⟨w1.heap.size, 4, none⟩ = some (.int .i64 0) := R0.cell (i := 4) (by decide)
  have c5 : W0.cell? ⟨w1.heap.size, 5, none⟩ = some (.int .i64 0) := R0.cell (i := 5) (by decide)
  have l0 := R0.lt
  have HR := hide (show IsRow W0 g 13 13 f0 from by rw [← hW0]; exact hr1.alloc _)
  have HB2 := hide (show Below w.heap.size w W0 from by rw [← hW0]; exact hb1.alloc hb1.size _)
  clear hr1 hb1 R0
  rw [hW0]
  clear hW0
  go_wp2_with fail
  refine (EX.out W0 g HR.out HR.out.lt).mono ?_
  rintro e w3 ⟨hb, hcase⟩
  have BX : Below W0.heap.size W0 ((W0.alloc (.cells #[.int .i64 1, .int .i64 0, .int .i64 0, .int .i64 1, .int .u64 1, .int .i64 2, .int .i64 0, .int .i64 0, .int .i64 0, .int .u64 0] 52)).alloc (.cells #[.slice (some ⟨W0.heap.size, 0, none⟩) 2 2] 60)) := ((Below.refl W0.heap.size W0).alloc (Nat.le_refl _) _).alloc (by simp) _
  have BB := hide (HB2.out.trans ((BX.trans (hb.mono (by simp; omega))).mono HB2.out.size))
  clear hb BX c0 c1 c2 c3 c4 c5
  rcases hcase with ⟨er, hle, rfl⟩ | ⟨_, hF, hok, v, rfl, blk, c, g', sv, rfl, H, G, GS, R, hg, hne⟩
  · refine absurd ⟨?_, ?_⟩ (show ¬ (Fine Exam.P0 99 ∧ AllOk (kShd false ⟨1, 0, 1, 1, 0, 0⟩) Exam.P0) from by rcases hle with ⟨h, _⟩ | ⟨_, h⟩; exact absurd rfl h; exact h.not)
    · refine ⟨by decide, ?_, by decide, by decide, by decide⟩
      rintro (h | ⟨h, _, h2⟩)
      · exact absurd h (by decide)
      · have h3 : 256 < 2 := h2
        omega
    · intro h hh j hj
      have : h < 1 := hh
      match h, this with
      | 0, _ =>
        have : j < 2 := hj
        match j, this with
        | 0, _ => decide
        | 1, _ => decide
  · have hst : runSt Exam.P0 (st0 (kShd false ⟨1, 0, 1, 1, 0, 0⟩) Exam.P0 f0) (Int.toNat 99) = Exam.s9 := rfl
    rw [hst] at G GS R ⊢
    rw [Exam.e9]
    obtain ⟨b, cap, rfl, hbl, _, hcs⟩ := grows_cell GS H (stepCells_length _ _) (by rw [Exam.k9]; decide)
    obtain ⟨A, eA, hA⟩ := G.answers
    have a0 := hA 0 (by decide)
    rw [Exam.d9] at a0
    obtain ⟨b', cap', eA0, hbl', _, hcs'⟩ := grows_cell a0 H (ansCells_length _ _) (by decide)
    have ac := hcs' _ _ (ansCells_get (Exam.s9.ans 0) 2 1 1 (by decide) (by decide))
    have ak := hcs' _ _ (ansCells_get (Exam.s9.ans 0) 2 1 0 (by decide) (by decide))
    simp only [Ans.cell, Exam.a1.1, Exam.a1.2] at ac ak
    have ah := H.cell eA (i := 0) (show 0 < 1 by decide)
    simp only [eA0] at ah
    have la := H.lt eA
    rw [Exam.k9]
    have n1 : Exam.P0.n = 13 := rfl
    have rw10 := R.cell (i := 10) (show 10 < 13 by decide)
    rw [Exam.w9] at rw10
    have lg10 := R.lt
    have n2 : Exam.P0.nh = 1 := rfl
    rw [n1, n2]
    obtain ⟨ba, hba⟩ : ∃ ba, blk .answers = ba := ⟨_, rfl⟩
    rw [hba] at ah la ⊢
    simp only [Nat.zero_mul, Nat.zero_add, Nat.reduceMul, Nat.reduceAdd] at ac ak
    clear H G GS R hne hcs hcs' hA a0 hok hst hF
    simp only [decide_true]
    go_wp2_with fail
    go_ret
    exact ⟨rfl, BB.out.alloc (by have := BB.out.size; omega) _⟩
end Shd
end Go.Proofs.YtnodkeoikamonaaGreat
/-
  A region that draws its order, guards and calls in it, by a table of what each operation tells: whatever the order; the worlds are said by one invariant.
-/
namespace Go.Proofs.YtnodkeoikamonaaGreat
open Go.RowKit
set_option linter.unusedVariables false
set_option linter.unusedSimpArgs false
set_option linter.unnecessarySimpa false
namespace Lt
def cnt (g : Nat → Bool) : Nat → Nat
  | 0 => 0
  | i + 1 => cnt g i + (if g i then 1 else 0)
theorem cnt_le (g : Nat → Bool) : ∀ i, cnt g i ≤ i
  | 0 => Nat.le_refl _
  | i + 1 => by have := cnt_le g i; simp only [cnt]; split <;> omega
theorem cnt_zero {g : Nat → Bool} : ∀ {n : Nat}, cnt g n = 0 → ∀ i, i < n → g i = false
  | 0, _, i, hi => absurd hi (by omega)
  | n + 1, h, i, hi => by
    simp only [cnt] at h
    cases hn : g n with
    | true => rw [hn] at h; simp at h
    | false =>
      by_cases e : i = n
      · subst e; exact hn
      · exact cnt_zero (n := n) (by rw [hn] at h; simpa using h) i (by omega)
def up (L : Nat → Bool) (i : Nat) : Nat → Bool := fun j => if j = i then true else L j
theorem up_same (L : Nat → Bool) (i : Nat) : up L i i = true := by simp [up]
theorem up_other (L : Nat → Bool) {i j : Nat} (h : j ≠ i) : up L i j = L j := by simp [up, h]
theorem cnt_up {L : Nat → Bool} {i : Nat} (hi : L i = false) : ∀ n, cnt (fun j => !(up L i) j) n + (if i < n then 1 else 0) = cnt (fun j => !L j) n
  | 0 => by simp [cnt]
  | n + 1 => by
    have ih := cnt_up hi n
    simp only [cnt]
    by_cases h : n = i
    · subst h
      simp only [up_same, Nat.lt_irrefl, if_false, Nat.add_zero] at ih ⊢
      simp [hi, ih]
    · have hu : up L i n = L n := up_other _ h
      have : (i < n + 1) = (i < n) := by apply propext; omega
      simp only [this, hu]
      omega
def lis (listed : Array Bool) : Nat → Bool := fun i => listed.getD i false
theorem lis_set {listed : Array Bool} {i : Nat} (hi : i < listed.size) : lis (listed.setIfInBounds i true) = up (lis listed) i := by
  funext j
  by_cases h : j = i
  · subst h; simp [lis, hi, up]
  · rw [up_other _ h]
    simp [lis, Array.getElem?_setIfInBounds_ne (Ne.symm h)]
section
variable {P : Program} {ops : Array Oper} {Q : Exit → Act → World → Prop} {md : Region.Mode}
theorem wpAny_inv (hback : ∀ (i : Nat) (o : Oper), ops[i]? = some o → ∀ e ∈ o.after, Region.binds md e = true → e.on < i) (I : (Nat → Bool) → Act → World → Prop)
    (hstep : ∀ (L : Nat → Bool) (a : Act) (w : World) (i : Nat) (o : Oper), I L a w → ops[i]? = some o → L i = false → (∀ e ∈ o.after, Region.binds md e = true → L e.on = true) → (Region.wanted o (yielded ops a.tmps) = true ∧ o.wp P a w (fun a' w' => I (up L i) a' w') Q) ∨ (Region.wanted o (yielded ops a.tmps) = false ∧ I (up L i) (a.put o.dst undef) w))
    (hend : ∀ (L : Nat → Bool) (a : Act) (w : World), I L a w → (∀ i, i < ops.size → L i = true) → Q .normal a w) :
    ∀ fuel listed a w, listed.size = ops.size → cnt (fun i => !(lis listed) i) ops.size ≤ fuel → I (lis listed) a w → wpAny P md ops Q fuel listed a w := by
  have none_ready : ∀ listed : Array Bool, listed.size = ops.size → Region.ready md ops listed = [] → ∀ i, i < ops.size → lis listed i = true := by
    intro listed hsz hr i
    induction i using Nat.strongRecOn with
    | ind i ih =>
      intro hi
      cases hl : lis listed i with
      | true => rfl
      | false =>
        exfalso
        have hm : i ∈ Region.ready md ops listed := by
          rw [mem_ready]
          refine ⟨?_, ops[i], by simp [hi], fun e he hb => ?_⟩
          · have hlt : i < listed.size := by omega
            simp only [lis] at hl
            simpa [hlt] using hl
          · have hlt := hback i ops[i] (by simp [hi]) e he hb
            exact ih e.on hlt (by omega)
        rw [hr] at hm
        cases hm
  intro fuel
  induction fuel with
  | zero =>
    intro listed a w hsz hc hI
    have hall : ∀ i, i < ops.size → lis listed i = true := fun i hi => by
      have := cnt_zero (g := fun i => !(lis listed) i) (n := ops.size) (by omega) i hi
      simpa using this
    refine ⟨?_, hend _ a w hI hall⟩
    cases hr : Region.ready md ops listed with
    | nil => rfl
    | cons x xs =>
      exfalso
      have hx : x ∈ Region.ready md ops listed := by rw [hr]; simp
      rw [mem_ready] at hx
      obtain ⟨h0, o, ho, _⟩ := hx
      have hlt : x < ops.size := (Array.getElem?_eq_some_iff.1 ho).1
      have := hall x hlt
      have hlt' : x < listed.size := by omega
      simp [lis, hlt'] at this
      simp [hlt'] at h0
      rw [h0] at this
      cases this
  | succ fuel ih =>
    intro listed a w hsz hc hI
    refine ⟨fun hr => hend _ a w hI (none_ready listed hsz hr), fun i hi => ?_⟩
    rw [mem_ready] at hi
    obtain ⟨h0, o, ho, hdep⟩ := hi
    have hlt : i < ops.size := (Array.getElem?_eq_some_iff.1 ho).1
    have hlt' : i < listed.size := by omega
    have hf : lis listed i = false := by simp [hlt'] at h0; simp [lis, hlt', h0]
    have hs := hstep (lis listed) a w i o hI ho hf hdep
    have go : ∀ a' w', I (up (lis listed) i) a' w' → wpAny P md ops Q fuel (listed.setIfInBounds i true) a' w' := fun a' w' h => by
      refine ih _ a' w' (by simpa using hsz) ?_ (by rw [lis_set hlt']; exact h)
      rw [lis_set hlt']
      have := cnt_up hf ops.size
      rw [if_pos hlt] at this
      omega
    unfold wpOp
    simp only [ho]
    rcases hs with ⟨hw, hs⟩ | ⟨hw, hs⟩
    · rw [if_pos hw]
      left
      exact Oper.wp_mono go hs
    · rw [hw]
      simp only [Bool.false_eq_true, if_false]
      exact go _ _ hs
theorem region_inv {id : Nat} {a : Act} {w : World} (hm : P.follows .mixedOrders = true) (hback : ∀ (i : Nat) (o : Oper), ops[i]? = some o → ∀ e ∈ o.after, Region.binds .any e = true → e.on < i) (I : (Nat → Bool) → Act → World → Prop)
    (hstep : ∀ (L : Nat → Bool) (a : Act) (w : World) (i : Nat) (o : Oper), I L a w → ops[i]? = some o → L i = false → (∀ e ∈ o.after, Region.binds .any e = true → L e.on = true) → (Region.wanted o (yielded ops a.tmps) = true ∧ o.wp P a w (fun a' w' => I (up L i) a' w') Q) ∨ (Region.wanted o (yielded ops a.tmps) = false ∧ I (up L i) (a.put o.dst undef) w))
    (hend : ∀ (L : Nat → Bool) (a : Act) (w : World), I L a w → (∀ i, i < ops.size → L i = true) → Q .normal a w)
    (h0 : I (fun _ => false) a { w with drawn := w.drawn + 1 }) : (Code.region id ops true).wp P Q a w := by
  refine wp_region_any hm (wpAny_inv hback I hstep hend _ _ a _ (by simp) ?_ ?_)
  · exact cnt_le _ _
  · have : lis (Array.replicate ops.size false) = fun _ => false := by
      funext i
      simp [lis, Array.getElem?_replicate]
      split <;> rfl
    rw [this]
    exact h0
end
theorem put_eval {a : Act} {d : Nat} {v : Value} (h : d < a.tmps.size) : (a.put (some d) v).eval (.tmp d) = v := by
  simp [Act.put, Act.eval, h]
theorem put_other {a : Act} {d k : Nat} {v : Value} (h : k ≠ d) : (a.put (some d) v).eval (.tmp k) = a.eval (.tmp k) :=
  Act.eval_put (fun d' hd he => by cases hd; cases he; exact h rfl)
theorem put_size {a : Act} {d : Option Nat} {v : Value} : (a.put d v).tmps.size = a.tmps.size := by
  cases d <;> simp [Act.put]
theorem put_defs {a : Act} {d : Option Nat} {v : Value} : (a.put d v).defers = a.defers := by
  cases d <;> rfl
def look (l : List (Nat × Nat)) (i : Nat) : Option Nat := (l.find? (fun p => p.1 == i)).map (·.2)
theorem look_mem {l : List (Nat × Nat)} {i d : Nat} (h : look l i = some d) : (i, d) ∈ l := by
  unfold look at h
  obtain ⟨p, hp, hd⟩ := Option.map_eq_some_iff.1 h
  have h1 := List.find?_some hp
  have h2 := List.mem_of_find?_eq_some hp
  simp at h1
  subst h1; subst hd
  exact h2
theorem notD {b : Bool} (h : b = false) : ¬ b = true := by simp [h]
def pv (ks : List (Nat × Nat)) (vals : Nat → Value) (i : Nat) : Option (Nat × Value) := (look ks i).map (fun d => (d, vals i))
def D (ks : List (Nat × Nat)) (k : Nat) : Prop := (ks.any (fun p => p.2 == k)) = true
structure In (ks : List (Nat × Nat)) (vals : Nat → Value) (WI : World → Prop) (a0 : Act) (L : Nat → Bool) (a : Act) (w : World) : Prop where
  sz : a.tmps.size = a0.tmps.size
  df : a.defers = a0.defers
  fix : ∀ k, ¬ D ks k → a.eval (.tmp k) = a0.eval (.tmp k)
  pure : ∀ i d v, pv ks vals i = some (d, v) → L i = true → a.eval (.tmp d) = v
  world : WI w
abbrev Deps (o : Oper) (L : Nat → Bool) : Prop := ∀ e ∈ o.after, Region.binds .any e = true → L e.on = true
inductive Does (P : Program) (Q : Exit → Act → World → Prop) (ops : Array Oper) (ks : List (Nat × Nat)) (vals : Nat → Value) (WI : World → Prop) (a0 : Act) (i : Nat) (o : Oper) : Prop where
  | run (dst : o.dst = look ks i) (wn : ∀ L a w, In ks vals WI a0 L a w → Deps o L → Region.wanted o (yielded ops a.tmps) = true) (wp : ∀ L a w (K : Act → World → Prop), In ks vals WI a0 L a w → Deps o L → (∀ w' v, (∀ d, o.dst = some d → v = vals i) → WI w' → K (a.put o.dst v) w') → o.wp P a w K Q)
  | skip (dst : o.dst = look ks i) (wn : ∀ L a w, In ks vals WI a0 L a w → Deps o L → Region.wanted o (yielded ops a.tmps) = false) (hv : vals i = undef)
theorem region {P : Program} {id : Nat} {ops : Array Oper} {Q : Exit → Act → World → Prop} {ks : List (Nat × Nat)} {vals : Nat → Value} {WI : World → Prop} {w0 : World} {a0 : Act}
    (hm : P.follows .mixedOrders = true) (hback : ∀ (i : Nat) (o : Oper), ops[i]? = some o → ∀ e ∈ o.after, Region.binds .any e = true → e.on < i)
    (hgood : (ks.all fun p => ks.all fun q => p.1 == q.1 || p.2 != q.2) = true) (hD : ∀ k, D ks k → k < a0.tmps.size) (hW0 : WI { w0 with drawn := w0.drawn + 1 })
    (does : ∀ (i : Nat) (o : Oper), ops[i]? = some o → Does P Q ops ks vals WI a0 i o)
    (fin : ∀ L a w, In ks vals WI a0 L a w → (∀ i, i < ops.size → L i = true) → Q .normal a w) :
    (Code.region id ops true).wp P Q a0 w0 := by
  simp only [List.all_eq_true, bne_iff_ne, Bool.or_eq_true, beq_iff_eq] at hgood
  have pvm : ∀ {i d v}, pv ks vals i = some (d, v) → (i, d) ∈ ks := fun {i d v} h => by
    obtain ⟨d', h1, h2⟩ := Option.map_eq_some_iff.1 h
    cases h2; exact look_mem h1
  refine region_inv hm hback (fun L a w => In ks vals WI a0 L a w) ?step (fun L a w h hall => fin L a w h hall) ?start
  case start => exact ⟨rfl, rfl, fun _ _ => rfl, fun _ _ _ _ h => (by cases h), hW0⟩
  case step =>
    rintro L a w i o h ho hL hd
    have on : ∀ w' v, o.dst = look ks i → (∀ d, o.dst = some d → v = vals i) → WI w' → In ks vals WI a0 (up L i) (a.put o.dst v) w' := fun w' v hdst hv hW => by
      cases hlk : look ks i with
      | none =>
        rw [hdst, hlk]
        refine ⟨h.sz, h.df, h.fix, fun j d' v' hj hLj => h.pure j d' v' hj ?_, hW⟩
        have hji : j ≠ i := fun e => by
          subst e
          obtain ⟨d'', h1, _⟩ := Option.map_eq_some_iff.1 hj
          rw [hlk] at h1; cases h1
        rwa [up_other _ hji] at hLj
      | some d =>
        have hv' := hv d (hdst.trans hlk)
        subst hv'
        rw [hdst, hlk]
        have hm' : (i, d) ∈ ks := look_mem hlk
        have hDd : D ks d := by simp only [D, List.any_eq_true, beq_iff_eq]; exact ⟨_, hm', rfl⟩
        have e : ∀ k : Nat, k ≠ d → (a.put (some d) (vals i)).eval (.tmp k) = a.eval (.tmp k) := fun k hk => put_other hk
        refine ⟨by rw [put_size]; exact h.sz, by rw [put_defs]; exact h.df, fun k hk => ?_, fun j d' v' hj hLj => ?_, hW⟩
        · rw [e k (fun he => hk (he ▸ hDd))]; exact h.fix k hk
        · by_cases hij : j = i
          · subst hij
            rw [pv, hlk] at hj
            cases hj
            exact put_eval (by rw [h.sz]; exact hD _ hDd)
          · rw [up_other _ hij] at hLj
            have : d' ≠ d := by
              rcases hgood _ hm' _ (pvm hj) with e1 | e1
              · exact absurd e1.symm hij
              · exact Ne.symm e1
            rw [e d' this]
            exact h.pure j d' v' hj hLj
    rcases does i o ho with ⟨hdst, hwn, hwp⟩ | ⟨hdst, hwn, hv⟩
    · exact .inl ⟨hwn L a w h hd, hwp L a w _ h hd (fun w' v hv hW => on w' v hdst hv hW)⟩
    · exact .inr ⟨hwn L a w h hd, on w undef hdst (fun _ _ => hv.symm) h.world⟩
section
variable {P : Program} {Q : Exit → Act → World → Prop} {ops : Array Oper} {ks : List (Nat × Nat)} {vals : Nat → Value} {WI : World → Prop} {a0 : Act} {i : Nat} {o : Oper}
theorem wn0 (hg : o.guard = none) {y : Nat → Option Bool} : Region.wanted o y = true := by simp [Region.wanted, hg]
theorem wp_value {a : Act} {w : World} {K : Act → World → Prop} {v : Value} {w' : World} (h : (execOp a.eval o).run P w = .ok (.value v) w') (hk : K (a.put o.dst v) w') : o.wp P a w K Q := by
  unfold Oper.wp; rw [h]; exact hk
theorem wp_call {a : Act} {w : World} {K : Act → World → Prop} {f : FuncId} {args : Array Value} (hrun : (execOp a.eval o).run P w = .ok (.enter f args) w) (hc : Calls P f args w fun e w' => ∃ v, e = .returned v ∧ K (a.put o.dst v) w') : o.wp P a w K Q := by
  unfold Oper.wp
  rw [hrun, Oper.upon_enter]
  exact hc.mono (fun e w' ⟨v, he, hk⟩ => by subst he; exact hk)
theorem Does.read (hd : o.dst = look ks i) (wn : ∀ L a w, In ks vals WI a0 L a w → Deps o L → Region.wanted o (yielded ops a.tmps) = true) (h : ∀ L a w, In ks vals WI a0 L a w → Deps o L → (execOp a.eval o).run P w = .ok (.value (vals i)) w) : Does P Q ops ks vals WI a0 i o :=
  .run hd wn fun L a w K hI hdep hk => wp_value (h L a w hI hdep) (hk w _ (fun _ _ => rfl) hI.world)
theorem Does.make (hd : o.dst = look ks i) (wn : ∀ L a w, In ks vals WI a0 L a w → Deps o L → Region.wanted o (yielded ops a.tmps) = true) (h : ∀ L a w, In ks vals WI a0 L a w → Deps o L → ∃ w', (execOp a.eval o).run P w = .ok (.value (vals i)) w' ∧ WI w') : Does P Q ops ks vals WI a0 i o :=
  .run hd wn fun L a w K hI hdep hk => by
    obtain ⟨w', h1, h2⟩ := h L a w hI hdep
    exact wp_value h1 (hk w' _ (fun _ _ => rfl) h2)
theorem Does.call {f : FuncId} {args : Array Value} (hd : o.dst = look ks i) (wn : ∀ L a w, In ks vals WI a0 L a w → Deps o L → Region.wanted o (yielded ops a.tmps) = true) (h : ∀ L a w, In ks vals WI a0 L a w → Deps o L → (execOp a.eval o).run P w = .ok (.enter f args) w)
    (hc : ∀ w, WI w → Calls P f args w fun e w' => e = .returned (vals i) ∧ WI w') : Does P Q ops ks vals WI a0 i o :=
  .run hd wn fun L a w K hI hdep hk => wp_call (h L a w hI hdep) ((hc w hI.world).mono (by rintro e w' ⟨rfl, hw⟩; exact ⟨_, rfl, hk _ _ (fun _ _ => rfl) hw⟩))
end
theorem act_eq (a : Act) (l : List Value) (hd : a.defers = []) (hn : a.tmps.size = l.length) (h : ∀ k, k < l.length → a.eval (.tmp k) = l.getD k undef) : a = ⟨l.toArray, []⟩ := by
  obtain ⟨tmps, defers⟩ := a
  simp only at hn hd
  subst hd
  congr 1
  apply Array.ext
  · simp [hn]
  · intro i h1 h2
    have := h i (by omega)
    have h3 : i < l.length := by omega
    simpa [Act.eval, h1, h3] using this
/-! ### Single operations -/
section
variable {ev : Operand → Value} {o : Oper} {w : World}
theorem ex_move {x : Operand} {v : Value} (ho : o.op = .move x) (hx : ev x = v) : (execOp ev o).run Tryz.prog w = .ok (.value v) w := by simp [execOp, ho, hx]
theorem ex_assign {x : Operand} {v : Value} (ho : o.op = .assign x) (hx : ev x = v) : (execOp ev o).run Tryz.prog w = .ok (.value v) w := by simp [execOp, ho, hx]
theorem ex_extract {x : Operand} {vs : Array Value} {i : Nat} {v : Value} (ho : o.op = .extract x i) (hx : ev x = .tuple vs) (hv : vs[i]? = some v) : (execOp ev o).run Tryz.prog w = .ok (.value v) w := by
  simp [execOp, ho, hx, go_sem, hv]
theorem ex_load {x : Operand} {ty : TypeId} {a : Addr} {v : Value} (ho : o.op = .load ty x) (hx : ev x = .pointer (some a)) (hagg : (isAgg ty).run Tryz.prog w = .ok false w) (hc : w.cell? a = some v) : (execOp ev o).run Tryz.prog w = .ok (.value v) w := by
  simp [execOp, ho, hx, Instr.loadAt, Instr.sureAddr, loadVar, Sem.run_bind, hagg, go_sem, hc]
theorem ex_field {x : Operand} {b k q : Nat} {ty : TypeId} (ho : o.op = .fieldAddr ty x k) (hx : ev x = .pointer (some ⟨b, 0, none⟩)) (hf : (Instr.fieldAt ty (.pointer (some ⟨b, 0, none⟩)) k).run Tryz.prog w = .ok (.pointer (some ⟨b, q, none⟩)) w) : (execOp ev o).run Tryz.prog w = .ok (.value (.pointer (some ⟨b, q, none⟩))) w := by
  simp [execOp, ho, hx, hf]
theorem call1 {f : FuncId} {x0 : Operand} {ts : Array TypeId} {v0 : Value} (ho : o.op = Op.call { callee := Callee.value (Operand.func f), args := #[x0], argTypes := ts }) (h0 : ev x0 = v0) (hf : ev (Operand.func f) = .func (.func f) #[] #[]) (hcf : (callFunc f #[v0]).run Tryz.prog w = .ok (.enter f #[v0]) w) :
    (execOp ev o).run Tryz.prog w = .ok (.enter f #[v0]) w := by
  simp [execOp, ho, h0, hf, resolve, invoke, go_sem, hcf]
theorem call2 {f : FuncId} {x0 x1 : Operand} {ts : Array TypeId} {v0 v1 : Value} (ho : o.op = Op.call { callee := Callee.value (Operand.func f), args := #[x0, x1], argTypes := ts }) (h0 : ev x0 = v0) (h1 : ev x1 = v1) (hf : ev (Operand.func f) = .func (.func f) #[] #[]) (hcf : (callFunc f #[v0, v1]).run Tryz.prog w = .ok (.enter f #[v0, v1]) w) :
    (execOp ev o).run Tryz.prog w = .ok (.enter f #[v0, v1]) w := by
  simp [execOp, ho, h0, h1, hf, resolve, invoke, go_sem, hcf]
theorem call3 {f : FuncId} {x0 x1 x2 : Operand} {ts : Array TypeId} {v0 v1 v2 : Value} (ho : o.op = Op.call { callee := Callee.value (Operand.func f), args := #[x0, x1, x2], argTypes := ts }) (h0 : ev x0 = v0) (h1 : ev x1 = v1) (h2 : ev x2 = v2) (hf : ev (Operand.func f) = .func (.func f) #[] #[]) (hcf : (callFunc f #[v0, v1, v2]).run Tryz.prog w = .ok (.enter f #[v0, v1, v2]) w) :
    (execOp ev o).run Tryz.prog w = .ok (.enter f #[v0, v1, v2]) w := by
  simp [execOp, ho, h0, h1, h2, hf, resolve, invoke, go_sem, hcf]
theorem call4 {f : FuncId} {x0 x1 x2 x3 : Operand} {ts : Array TypeId} {v0 v1 v2 v3 : Value} (ho : o.op = Op.call { callee := Callee.value (Operand.func f), args := #[x0, x1, x2, x3], argTypes := ts }) (h0 : ev x0 = v0) (h1 : ev x1 = v1) (h2 : ev x2 = v2) (h3 : ev x3 = v3) (hf : ev (Operand.func f) = .func (.func f) #[] #[]) (hcf : (callFunc f #[v0, v1, v2, v3]).run Tryz.prog w = .ok (.enter f #[v0, v1, v2, v3]) w) :
    (execOp ev o).run Tryz.prog w = .ok (.enter f #[v0, v1, v2, v3]) w := by
  simp [execOp, ho, h0, h1, h2, h3, hf, resolve, invoke, go_sem, hcf]
theorem ex_addI {x y : Operand} {m n z : Int} (ho : o.op = .binOp .add 3 x y 3) (hx : ev x = .int .i64 m) (hy : ev y = .int .i64 n) (hz : IntKind.i64.wrap (m + n) = z) : (execOp ev o).run Tryz.prog w = .ok (.value (.int .i64 z)) w := by
  subst hz; simp [execOp, ho, hx, hy, go_sem]
theorem ex_subI {x y : Operand} {m n z : Int} (ho : o.op = .binOp .sub 3 x y 3) (hx : ev x = .int .i64 m) (hy : ev y = .int .i64 n) (hz : IntKind.i64.wrap (m - n) = z) : (execOp ev o).run Tryz.prog w = .ok (.value (.int .i64 z)) w := by
  subst hz; simp [execOp, ho, hx, hy, go_sem]
theorem ex_mulI {x y : Operand} {m n z : Int} (ho : o.op = .binOp .mul 3 x y 3) (hx : ev x = .int .i64 m) (hy : ev y = .int .i64 n) (hz : IntKind.i64.wrap (m * n) = z) : (execOp ev o).run Tryz.prog w = .ok (.value (.int .i64 z)) w := by
  subst hz; simp [execOp, ho, hx, hy, go_sem]
theorem isRow_of {ty : TypeId} (h : (Tryz.prog.underlying ty).map (fun d => d.isRow) = some true) : ∃ d, Tryz.prog.underlying ty = some d ∧ d.isRow = true := Option.map_eq_some_iff.1 h
theorem ex_load_row {x : Operand} {ty : TypeId} {b off : Nat} {cs : List Value} (ho : o.op = .load ty x) (hx : ev x = .pointer (some ⟨b, off, none⟩)) (hc : w.rangeAt b off cs) (hu : (Tryz.prog.underlying ty).map (fun d => d.isRow) = some true) (hi : (Tryz.prog.info? ty).map (·.size) = some cs.length) :
    (execOp ev o).run Tryz.prog w = .ok (.value (.agg cs.toArray)) w := by
  obtain ⟨d, h1, h2⟩ := isRow_of hu
  simp [execOp, ho, hx, run_loadAt_mid w b off ty cs d hc h1 h2 hi]
end
end Lt
end Go.Proofs.YtnodkeoikamonaaGreat
/-
  Shape: Root and Slot of the package, for every shape and numbers.
-/
namespace Go.Proofs.YtnodkeoikamonaaGreat
open Go.RowKit
set_option linter.unusedVariables false
set_option linter.unusedSimpArgs false
set_option linter.unnecessarySimpa false
set_option maxRecDepth 20000
namespace Shape
theorem rng {w' : World} {b : Nat} {v0 v1 v2 v3 v4 v5 : Value} (y0 : w'.cell? ⟨b, 0, none⟩ = some v0) (y1 : w'.cell? ⟨b, 1, none⟩ = some v1) (y2 : w'.cell? ⟨b, 2, none⟩ = some v2) (y3 : w'.cell? ⟨b, 3, none⟩ = some v3) (y4 : w'.cell? ⟨b, 4, none⟩ = some v4) (y5 : w'.cell? ⟨b, 5, none⟩ = some v5) : w'.rangeAt b 0 [v0, v1, v2, v3, v4, v5] := by
  intro j v hv
  match j, hv with
  | 0, hv => cases hv; simpa using y0
  | 1, hv => cases hv; simpa using y1
  | 2, hv => cases hv; simpa using y2
  | 3, hv => cases hv; simpa using y3
  | 4, hv => cases hv; simpa using y4
  | 5, hv => cases hv; simpa using y5
end Shape
end Go.Proofs.YtnodkeoikamonaaGreat
/-
  Shape: the document's Size, Ack, Root, Weak, Object, Slot.
-/
namespace Go.Proofs.YtnodkeoikamonaaGreat
open Go.RowKit
set_option linter.unusedVariables false
set_option linter.unusedSimpArgs false
set_option linter.unnecessarySimpa false
set_option maxRecDepth 20000
namespace Shape
theorem place_arg {s0 s1 s2 s3 s4 s5 : Int} (H : R5 s0 s1 s2 s3 s4) (v : Int) (w : World) : Calls Tryz.prog 102 #[.agg #[.int .i64 s0, .int .i64 s1, .int .i64 s2, .int .i64 s3, .int .i64 s4, .int .i64 s5], .bool false, .int .i64 v] w fun e w' => e = .returned (.tuple #[.int .i64 0, .int .i64 2]) ∧ Below w.heap.size w w' := by
  have HH := hide H
  clear H
  obtain ⟨W0, hW0, B0, K⟩ := box w s0 s1 s2 s3 s4 s5
  have HB := hide B0
  obtain ⟨-, l0, x0, x1, x2, x3, x4, x5⟩ := K.out W0 (Below.refl _ _)
  clear B0
  go_enter Tryz.func102, Tryz.ntmps102
  go_wp2_with (go_at_call 52; refine (rcheck_ok HH.out _).mono ?_; rintro e w1 ⟨rfl, hb1⟩; have HB1 := hide hb1; clear hb1; obtain ⟨-, m1, y0, y1, y2, y3, y4, y5⟩ := K.out w1 HB1.out)
  go_ret2
  exact ⟨rfl, (K.out _ HB1.out).1⟩
theorem place_ok {s0 s1 s2 s3 s4 s5 : Int} (H : R5 s0 s1 s2 s3 s4) (v : Int) (w : World) : Calls Tryz.prog 102 #[.agg #[.int .i64 s0, .int .i64 s1, .int .i64 s2, .int .i64 s3, .int .i64 s4, .int .i64 s5], .bool true, .int .i64 v] w fun e w' => e = .returned (.tuple #[.int .i64 v, .int .i64 0]) ∧ Below w.heap.size w w' := by
  have HH := hide H
  clear H
  obtain ⟨W0, hW0, B0, K⟩ := box w s0 s1 s2 s3 s4 s5
  have HB := hide B0
  obtain ⟨-, l0, x0, x1, x2, x3, x4, x5⟩ := K.out W0 (Below.refl _ _)
  clear B0
  go_enter Tryz.func102, Tryz.ntmps102
  go_wp2_with (go_at_call 52; refine (rcheck_ok HH.out _).mono ?_; rintro e w1 ⟨rfl, hb1⟩; have HB1 := hide hb1; clear hb1; obtain ⟨-, m1, y0, y1, y2, y3, y4, y5⟩ := K.out w1 HB1.out)
  go_ret2
  exact ⟨rfl, (K.out _ HB1.out).1⟩
theorem robject_of {s0 s1 s2 s3 s4 s5 : Int} {a v e : Int} {q : Bool} (T1 : Hid (∀ w1 : World, Calls Tryz.prog 86 #[.int .i64 a, .int .i64 1, .int .i64 s0] w1 fun e w' => e = .returned (.bool q) ∧ w' = w1)) (PL : Hid (∀ w1 : World, Calls Tryz.prog 102 #[.agg #[.int .i64 s0, .int .i64 s1, .int .i64 s2, .int .i64 s3, .int .i64 s4, .int .i64 s5], .bool q, .int .i64 (IntKind.i64.wrap ((IntKind.i64.wrap ((IntKind.i64.wrap ((IntKind.i64.wrap (8 + s2)) + (IntKind.i64.wrap (s2 * s3)))) + s4)) + (IntKind.i64.wrap ((IntKind.i64.wrap (a - 1)) * (IntKind.i64.wrap (3 + s1))))))] w1 fun e' w' => e' = .returned (.tuple #[.int .i64 v, .int .i64 e]) ∧ Below w1.heap.size w1 w')) (w : World) : Calls Tryz.prog 89 #[.agg #[.int .i64 s0, .int .i64 s1, .int .i64 s2, .int .i64 s3, .int .i64 s4, .int .i64 s5], .int .i64 a] w fun e' w' => e' = .returned (.tuple #[.int .i64 v, .int .i64 e]) ∧ Below w.heap.size w w' := by
  obtain ⟨W0, hW0, B0, K⟩ := box w s0 s1 s2 s3 s4 s5
  have HB := hide B0
  obtain ⟨-, l0, x0, x1, x2, x3, x4, x5⟩ := K.out W0 (Below.refl _ _)
  clear B0
  go_enter Tryz.func89, Tryz.ntmps89
  go_wp2_with fail
  refine Lt.region (ks := [(0, 6), (1, 7), (2, 8), (3, 9), (4, 10), (5, 11), (6, 12), (7, 13), (8, 14), (9, 15), (10, 16), (11, 17), (12, 18), (13, 19), (14, 20), (15, 21), (16, 22), (17, 23), (18, 24), (19, 25), (20, 26), (21, 27), (22, 28), (23, 29), (24, 30), (25, 31), (26, 32), (27, 4), (28, 5)]) (vals := fun iv => match iv with
      | 0 => .agg #[.int .i64 s0, .int .i64 s1, .int .i64 s2, .int .i64 s3, .int .i64 s4, .int .i64 s5]
      | 1 => .int .i64 a
      | 2 => .pointer (some ⟨w.heap.size, 0, none⟩)
      | 3 => .int .i64 s0
      | 4 => .bool q
      | 5 => .pointer (some ⟨w.heap.size, 2, none⟩)
      | 6 => .int .i64 s2
      | 7 => .int .i64 (IntKind.i64.wrap (8 + s2))
      | 8 => .pointer (some ⟨w.heap.size, 2, none⟩)
      | 9 => .int .i64 s2
      | 10 => .pointer (some ⟨w.heap.size, 3, none⟩)
      | 11 => .int .i64 s3
      | 12 => .int .i64 (IntKind.i64.wrap (s2 * s3))
      | 13 => .int .i64 (IntKind.i64.wrap ((IntKind.i64.wrap (8 + s2)) + (IntKind.i64.wrap (s2 * s3))))
      | 14 => .pointer (some ⟨w.heap.size, 4, none⟩)
      | 15 => .int .i64 s4
      | 16 => .int .i64 (IntKind.i64.wrap ((IntKind.i64.wrap ((IntKind.i64.wrap (8 + s2)) + (IntKind.i64.wrap (s2 * s3)))) + s4))
      | 17 => .int .i64 a
      | 18 => .int .i64 (IntKind.i64.wrap (a - 1))
      | 19 => .pointer (some ⟨w.heap.size, 1, none⟩)
      | 20 => .int .i64 s1
      | 21 => .int .i64 (IntKind.i64.wrap (3 + s1))
      | 22 => .int .i64 (IntKind.i64.wrap ((IntKind.i64.wrap (a - 1)) * (IntKind.i64.wrap (3 + s1))))
      | 23 => .int .i64 (IntKind.i64.wrap ((IntKind.i64.wrap ((IntKind.i64.wrap ((IntKind.i64.wrap (8 + s2)) + (IntKind.i64.wrap (s2 * s3)))) + s4)) + (IntKind.i64.wrap ((IntKind.i64.wrap (a - 1)) * (IntKind.i64.wrap (3 + s1))))))
      | 24 => .tuple #[.int .i64 v, .int .i64 e]
      | 25 => .int .i64 v
      | 26 => .int .i64 e
      | 27 => .int .i64 v
      | 28 => .int .i64 e
      | _ => undef) (WI := fun w' => Below W0.heap.size W0 w') (by kernel_rfl) ?bk rfl ?dd (⟨rfl, rfl, rfl, Nat.le_refl _, fun _ _ => rfl⟩) ?does ?fin
  case bk =>
    intro iq oq ho
    have hiq : iq < 29 := by have := (Array.getElem?_eq_some_iff.1 ho).1; simpa using this
    match iq, hiq with
    | 0, _ | 1, _ | 2, _ | 3, _ | 4, _ | 5, _ | 6, _ | 7, _ | 8, _ | 9, _ | 10, _ | 11, _ | 12, _ | 13, _ | 14, _ | 15, _ | 16, _ | 17, _ | 18, _ | 19, _ | 20, _ | 21, _ | 22, _ | 23, _ | 24, _ | 25, _ | 26, _ | 27, _ | 28, _ => injection ho with ho; subst ho; simp [Region.binds]
  case dd =>
    intro k hk
    have hk' : k < 33 := by
      simp [Lt.D] at hk
      omega
    simpa using hk'
  case does =>
    intro iq oq ho
    have hiq : iq < 29 := by have := (Array.getElem?_eq_some_iff.1 ho).1; simpa using this
    match iq, hiq with
    | 0, _ => injection ho with ho; subst ho; exact Lt.Does.read rfl (fun Lq aq w' hI hq => Lt.wn0 rfl) (fun Lq aq w' hI hq => Lt.ex_load_row rfl (hI.fix 2 (Lt.notD rfl)) (by obtain ⟨-, -, y0, y1, y2, y3, y4, y5⟩ := K.out w' hI.world; exact rng y0 y1 y2 y3 y4 y5) (by kernel_rfl) (by kernel_rfl))
    | 1, _ => injection ho with ho; subst ho; exact Lt.Does.read rfl (fun Lq aq w' hI hq => Lt.wn0 rfl) (fun Lq aq w' hI hq => Lt.ex_move rfl (hI.fix 1 (Lt.notD rfl)))
    | 2, _ => injection ho with ho; subst ho; exact Lt.Does.read rfl (fun Lq aq w' hI hq => Lt.wn0 rfl) (fun Lq aq w' hI hq => Lt.ex_field rfl (hI.fix 2 (Lt.notD rfl)) (by simp [go_sem]))
    | 3, _ => injection ho with ho; subst ho; exact Lt.Does.read rfl (fun Lq aq w' hI hq => Lt.wn0 rfl) (fun Lq aq w' hI hq => Lt.ex_load rfl (hI.pure 2 _ _ rfl (hq ⟨2, .data⟩ (by simp) rfl)) (by simp [go_sem]) (by obtain ⟨-, -, y0, y1, y2, y3, y4, y5⟩ := K.out w' hI.world; exact y0))
    | 4, _ => injection ho with ho; subst ho; exact Lt.Does.call rfl (fun Lq aq w' hI hq => Lt.wn0 rfl) (fun Lq aq w' hI hq => Lt.call3 rfl (hI.pure 1 _ _ rfl (hq ⟨1, .data⟩ (by simp) rfl)) rfl (hI.pure 3 _ _ rfl (hq ⟨3, .data⟩ (by simp) rfl)) rfl (by simp [go_sem])) (fun w1 hw1 => (T1.out w1).mono (by rintro e w2 ⟨rfl, hw2⟩; obtain rfl := hw2.symm; exact ⟨rfl, hw1⟩))
    | 5, _ => injection ho with ho; subst ho; exact Lt.Does.read rfl (fun Lq aq w' hI hq => Lt.wn0 rfl) (fun Lq aq w' hI hq => Lt.ex_field rfl (hI.fix 2 (Lt.notD rfl)) (by simp [go_sem]))
    | 6, _ => injection ho with ho; subst ho; exact Lt.Does.read rfl (fun Lq aq w' hI hq => Lt.wn0 rfl) (fun Lq aq w' hI hq => Lt.ex_load rfl (hI.pure 5 _ _ rfl (hq ⟨5, .data⟩ (by simp) rfl)) (by simp [go_sem]) (by obtain ⟨-, -, y0, y1, y2, y3, y4, y5⟩ := K.out w' hI.world; exact y2))
    | 7, _ => injection ho with ho; subst ho; exact Lt.Does.read rfl (fun Lq aq w' hI hq => Lt.wn0 rfl) (fun Lq aq w' hI hq => Lt.ex_addI rfl rfl (hI.pure 6 _ _ rfl (hq ⟨6, .data⟩ (by simp) rfl)) rfl)
    | 8, _ => injection ho with ho; subst ho; exact Lt.Does.read rfl (fun Lq aq w' hI hq => Lt.wn0 rfl) (fun Lq aq w' hI hq => Lt.ex_field rfl (hI.fix 2 (Lt.notD rfl)) (by simp [go_sem]))
    | 9, _ => injection ho with ho; subst ho; exact Lt.Does.read rfl (fun Lq aq w' hI hq => Lt.wn0 rfl) (fun Lq aq w' hI hq => Lt.ex_load rfl (hI.pure 8 _ _ rfl (hq ⟨8, .data⟩ (by simp) rfl)) (by simp [go_sem]) (by obtain ⟨-, -, y0, y1, y2, y3, y4, y5⟩ := K.out w' hI.world; exact y2))
    | 10, _ => injection ho with ho; subst ho; exact Lt.Does.read rfl (fun Lq aq w' hI hq => Lt.wn0 rfl) (fun Lq aq w' hI hq => Lt.ex_field rfl (hI.fix 2 (Lt.notD rfl)) (by simp [go_sem]))
    | 11, _ => injection ho with ho; subst ho; exact Lt.Does.read rfl (fun Lq aq w' hI hq => Lt.wn0 rfl) (fun Lq aq w' hI hq => Lt.ex_load rfl (hI.pure 10 _ _ rfl (hq ⟨10, .data⟩ (by simp) rfl)) (by simp [go_sem]) (by obtain ⟨-, -, y0, y1, y2, y3, y4, y5⟩ := K.out w' hI.world; exact y3))
    | 12, _ => injection ho with ho; subst ho; exact Lt.Does.read rfl (fun Lq aq w' hI hq => Lt.wn0 rfl) (fun Lq aq w' hI hq => Lt.ex_mulI rfl (hI.pure 9 _ _ rfl (hq ⟨9, .data⟩ (by simp) rfl)) (hI.pure 11 _ _ rfl (hq ⟨11, .data⟩ (by simp) rfl)) rfl)
    | 13, _ => injection ho with ho; subst ho; exact Lt.Does.read rfl (fun Lq aq w' hI hq => Lt.wn0 rfl) (fun Lq aq w' hI hq => Lt.ex_addI rfl (hI.pure 7 _ _ rfl (hq ⟨7, .data⟩ (by simp) rfl)) (hI.pure 12 _ _ rfl (hq ⟨12, .data⟩ (by simp) rfl)) rfl)
    | 14, _ => injection ho with ho; subst ho; exact Lt.Does.read rfl (fun Lq aq w' hI hq => Lt.wn0 rfl) (fun Lq aq w' hI hq => Lt.ex_field rfl (hI.fix 2 (Lt.notD rfl)) (by simp [go_sem]))
    | 15, _ => injection ho with ho; subst ho; exact Lt.Does.read rfl (fun Lq aq w' hI hq => Lt.wn0 rfl) (fun Lq aq w' hI hq => Lt.ex_load rfl (hI.pure 14 _ _ rfl (hq ⟨14, .data⟩ (by simp) rfl)) (by simp [go_sem]) (by obtain ⟨-, -, y0, y1, y2, y3, y4, y5⟩ := K.out w' hI.world; exact y4))
    | 16, _ => injection ho with ho; subst ho; exact Lt.Does.read rfl (fun Lq aq w' hI hq => Lt.wn0 rfl) (fun Lq aq w' hI hq => Lt.ex_addI rfl (hI.pure 13 _ _ rfl (hq ⟨13, .data⟩ (by simp) rfl)) (hI.pure 15 _ _ rfl (hq ⟨15, .data⟩ (by simp) rfl)) rfl)
    | 17, _ => injection ho with ho; subst ho; exact Lt.Does.read rfl (fun Lq aq w' hI hq => Lt.wn0 rfl) (fun Lq aq w' hI hq => Lt.ex_move rfl (hI.fix 1 (Lt.notD rfl)))
    | 18, _ => injection ho with ho; subst ho; exact Lt.Does.read rfl (fun Lq aq w' hI hq => Lt.wn0 rfl) (fun Lq aq w' hI hq => Lt.ex_subI rfl (hI.pure 17 _ _ rfl (hq ⟨17, .data⟩ (by simp) rfl)) rfl rfl)
    | 19, _ => injection ho with ho; subst ho; exact Lt.Does.read rfl (fun Lq aq w' hI hq => Lt.wn0 rfl) (fun Lq aq w' hI hq => Lt.ex_field rfl (hI.fix 2 (Lt.notD rfl)) (by simp [go_sem]))
    | 20, _ => injection ho with ho; subst ho; exact Lt.Does.read rfl (fun Lq aq w' hI hq => Lt.wn0 rfl) (fun Lq aq w' hI hq => Lt.ex_load rfl (hI.pure 19 _ _ rfl (hq ⟨19, .data⟩ (by simp) rfl)) (by simp [go_sem]) (by obtain ⟨-, -, y0, y1, y2, y3, y4, y5⟩ := K.out w' hI.world; exact y1))
    | 21, _ => injection ho with ho; subst ho; exact Lt.Does.read rfl (fun Lq aq w' hI hq => Lt.wn0 rfl) (fun Lq aq w' hI hq => Lt.ex_addI rfl rfl (hI.pure 20 _ _ rfl (hq ⟨20, .data⟩ (by simp) rfl)) rfl)
    | 22, _ => injection ho with ho; subst ho; exact Lt.Does.read rfl (fun Lq aq w' hI hq => Lt.wn0 rfl) (fun Lq aq w' hI hq => Lt.ex_mulI rfl (hI.pure 18 _ _ rfl (hq ⟨18, .data⟩ (by simp) rfl)) (hI.pure 21 _ _ rfl (hq ⟨21, .data⟩ (by simp) rfl)) rfl)
    | 23, _ => injection ho with ho; subst ho; exact Lt.Does.read rfl (fun Lq aq w' hI hq => Lt.wn0 rfl) (fun Lq aq w' hI hq => Lt.ex_addI rfl (hI.pure 16 _ _ rfl (hq ⟨16, .data⟩ (by simp) rfl)) (hI.pure 22 _ _ rfl (hq ⟨22, .data⟩ (by simp) rfl)) rfl)
    | 24, _ => injection ho with ho; subst ho; exact Lt.Does.call rfl (fun Lq aq w' hI hq => Lt.wn0 rfl) (fun Lq aq w' hI hq => Lt.call3 rfl (hI.pure 0 _ _ rfl (hq ⟨0, .data⟩ (by simp) rfl)) (hI.pure 4 _ _ rfl (hq ⟨4, .data⟩ (by simp) rfl)) (hI.pure 23 _ _ rfl (hq ⟨23, .data⟩ (by simp) rfl)) rfl (by simp [go_sem])) (fun w1 hw1 => (PL.out w1).mono (by rintro e w2 ⟨rfl, hb⟩; exact ⟨rfl, hw1.trans (hb.mono hw1.size)⟩))
    | 25, _ => injection ho with ho; subst ho; exact Lt.Does.read rfl (fun Lq aq w' hI hq => Lt.wn0 rfl) (fun Lq aq w' hI hq => Lt.ex_extract rfl (hI.pure 24 _ _ rfl (hq ⟨24, .data⟩ (by simp) rfl)) rfl)
    | 26, _ => injection ho with ho; subst ho; exact Lt.Does.read rfl (fun Lq aq w' hI hq => Lt.wn0 rfl) (fun Lq aq w' hI hq => Lt.ex_extract rfl (hI.pure 24 _ _ rfl (hq ⟨24, .data⟩ (by simp) rfl)) rfl)
    | 27, _ => injection ho with ho; subst ho; exact Lt.Does.read rfl (fun Lq aq w' hI hq => Lt.wn0 rfl) (fun Lq aq w' hI hq => Lt.ex_assign rfl (hI.pure 25 _ _ rfl (hq ⟨25, .data⟩ (by simp) rfl)))
    | 28, _ => injection ho with ho; subst ho; exact Lt.Does.read rfl (fun Lq aq w' hI hq => Lt.wn0 rfl) (fun Lq aq w' hI hq => Lt.ex_assign rfl (hI.pure 26 _ _ rfl (hq ⟨26, .data⟩ (by simp) rfl)))
  case fin =>
    intro Lq a' w' hI hall
    have hw := hI.world
    obtain rfl : a' = ⟨#[.agg #[.int .i64 s0, .int .i64 s1, .int .i64 s2, .int .i64 s3, .int .i64 s4, .int .i64 s5], .int .i64 a, .pointer (some ⟨w.heap.size, 0, none⟩), undef, .int .i64 v, .int .i64 e, .agg #[.int .i64 s0, .int .i64 s1, .int .i64 s2, .int .i64 s3, .int .i64 s4, .int .i64 s5], .int .i64 a, .pointer (some ⟨w.heap.size, 0, none⟩), .int .i64 s0, .bool q, .pointer (some ⟨w.heap.size, 2, none⟩), .int .i64 s2, .int .i64 (IntKind.i64.wrap (8 + s2)), .pointer (some ⟨w.heap.size, 2, none⟩), .int .i64 s2, .pointer (some ⟨w.heap.size, 3, none⟩), .int .i64 s3, .int .i64 (IntKind.i64.wrap (s2 * s3)), .int .i64 (IntKind.i64.wrap ((IntKind.i64.wrap (8 + s2)) + (IntKind.i64.wrap (s2 * s3)))), .pointer (some ⟨w.heap.size, 4, none⟩), .int .i64 s4, .int .i64 (IntKind.i64.wrap ((IntKind.i64.wrap ((IntKind.i64.wrap (8 + s2)) + (IntKind.i64.wrap (s2 * s3)))) + s4)), .int .i64 a, .int .i64 (IntKind.i64.wrap (a - 1)), .pointer (some ⟨w.heap.size, 1, none⟩), .int .i64 s1, .int .i64 (IntKind.i64.wrap (3 + s1)), .int .i64 (IntKind.i64.wrap ((IntKind.i64.wrap (a - 1)) * (IntKind.i64.wrap (3 + s1)))), .int .i64 (IntKind.i64.wrap ((IntKind.i64.wrap ((IntKind.i64.wrap ((IntKind.i64.wrap (8 + s2)) + (IntKind.i64.wrap (s2 * s3)))) + s4)) + (IntKind.i64.wrap ((IntKind.i64.wrap (a - 1)) * (IntKind.i64.wrap (3 + s1)))))), .tuple #[.int .i64 v, .int .i64 e], .int .i64 v, .int .i64 e], []⟩ := Lt.act_eq a' [.agg #[.int .i64 s0, .int .i64 s1, .int .i64 s2, .int .i64 s3, .int .i64 s4, .int .i64 s5], .int .i64 a, .pointer (some ⟨w.heap.size, 0, none⟩), undef, .int .i64 v, .int .i64 e, .agg #[.int .i64 s0, .int .i64 s1, .int .i64 s2, .int .i64 s3, .int .i64 s4, .int .i64 s5], .int .i64 a, .pointer (some ⟨w.heap.size, 0, none⟩), .int .i64 s0, .bool q, .pointer (some ⟨w.heap.size, 2, none⟩), .int .i64 s2, .int .i64 (IntKind.i64.wrap (8 + s2)), .pointer (some ⟨w.heap.size, 2, none⟩), .int .i64 s2, .pointer (some ⟨w.heap.size, 3, none⟩), .int .i64 s3, .int .i64 (IntKind.i64.wrap (s2 * s3)), .int .i64 (IntKind.i64.wrap ((IntKind.i64.wrap (8 + s2)) + (IntKind.i64.wrap (s2 * s3)))), .pointer (some ⟨w.heap.size, 4, none⟩), .int .i64 s4, .int .i64 (IntKind.i64.wrap ((IntKind.i64.wrap ((IntKind.i64.wrap (8 + s2)) + (IntKind.i64.wrap (s2 * s3)))) + s4)), .int .i64 a, .int .i64 (IntKind.i64.wrap (a - 1)), .pointer (some ⟨w.heap.size, 1, none⟩), .int .i64 s1, .int .i64 (IntKind.i64.wrap (3 + s1)), .int .i64 (IntKind.i64.wrap ((IntKind.i64.wrap (a - 1)) * (IntKind.i64.wrap (3 + s1)))), .int .i64 (IntKind.i64.wrap ((IntKind.i64.wrap ((IntKind.i64.wrap ((IntKind.i64.wrap (8 + s2)) + (IntKind.i64.wrap (s2 * s3)))) + s4)) + (IntKind.i64.wrap ((IntKind.i64.wrap (a - 1)) * (IntKind.i64.wrap (3 + s1)))))), .tuple #[.int .i64 v, .int .i64 e], .int .i64 v, .int .i64 e] hI.df (by rw [hI.sz]; rfl) (fun k hk => by
      have hk' : k < 33 := hk
      match k, hk' with
      | 0, _ => exact hI.fix 0 (Lt.notD rfl)
      | 1, _ => exact hI.fix 1 (Lt.notD rfl)
      | 2, _ => exact hI.fix 2 (Lt.notD rfl)
      | 3, _ => exact hI.fix 3 (Lt.notD rfl)
      | 4, _ => exact hI.pure 27 4 _ rfl (hall 27 (by decide))
      | 5, _ => exact hI.pure 28 5 _ rfl (hall 28 (by decide))
      | 6, _ => exact hI.pure 0 6 _ rfl (hall 0 (by decide))
      | 7, _ => exact hI.pure 1 7 _ rfl (hall 1 (by decide))
      | 8, _ => exact hI.pure 2 8 _ rfl (hall 2 (by decide))
      | 9, _ => exact hI.pure 3 9 _ rfl (hall 3 (by decide))
      | 10, _ => exact hI.pure 4 10 _ rfl (hall 4 (by decide))
      | 11, _ => exact hI.pure 5 11 _ rfl (hall 5 (by decide))
      | 12, _ => exact hI.pure 6 12 _ rfl (hall 6 (by decide))
      | 13, _ => exact hI.pure 7 13 _ rfl (hall 7 (by decide))
      | 14, _ => exact hI.pure 8 14 _ rfl (hall 8 (by decide))
      | 15, _ => exact hI.pure 9 15 _ rfl (hall 9 (by decide))
      | 16, _ => exact hI.pure 10 16 _ rfl (hall 10 (by decide))
      | 17, _ => exact hI.pure 11 17 _ rfl (hall 11 (by decide))
      | 18, _ => exact hI.pure 12 18 _ rfl (hall 12 (by decide))
      | 19, _ => exact hI.pure 13 19 _ rfl (hall 13 (by decide))
      | 20, _ => exact hI.pure 14 20 _ rfl (hall 14 (by decide))
      | 21, _ => exact hI.pure 15 21 _ rfl (hall 15 (by decide))
      | 22, _ => exact hI.pure 16 22 _ rfl (hall 16 (by decide))
      | 23, _ => exact hI.pure 17 23 _ rfl (hall 17 (by decide))
      | 24, _ => exact hI.pure 18 24 _ rfl (hall 18 (by decide))
      | 25, _ => exact hI.pure 19 25 _ rfl (hall 19 (by decide))
      | 26, _ => exact hI.pure 20 26 _ rfl (hall 20 (by decide))
      | 27, _ => exact hI.pure 21 27 _ rfl (hall 21 (by decide))
      | 28, _ => exact hI.pure 22 28 _ rfl (hall 22 (by decide))
      | 29, _ => exact hI.pure 23 29 _ rfl (hall 23 (by decide))
      | 30, _ => exact hI.pure 24 30 _ rfl (hall 24 (by decide))
      | 31, _ => exact hI.pure 25 31 _ rfl (hall 25 (by decide))
      | 32, _ => exact hI.pure 26 32 _ rfl (hall 26 (by decide))
      | q + 33, hq => exact absurd hq (by omega))
    rename_i K2 hK2
    refine hK2 _ _ ?_
    go_wp2_with fail
    go_ret2
    exact ⟨rfl, (K.out _ hw).1⟩
end Shape
end Go.Proofs.YtnodkeoikamonaaGreat
/-
  Shade's reference: where an object's head and link stand.
-/
namespace Go.Proofs.YtnodkeoikamonaaGreat
open Go.RowKit
set_option linter.unusedVariables false
set_option linter.unusedSimpArgs false
set_option maxRecDepth 20000
namespace Shd
theorem rwithin_q {n lo hi : Int} {q : Bool} (h : decide (lo ≤ n ∧ n ≤ hi) = q) (w : World) : Calls Tryz.prog 86 #[.int .i64 n, .int .i64 lo, .int .i64 hi] w fun e w' => e = .returned (.bool q) ∧ w' = w := by
  rw [← h]; exact Shape.rwithin_any w
theorem robject_no {sh : Shp} (h : Shape.R5 sh.a sh.b sh.c sh.d sh.e) {i : Int} (ht : ¬ there sh i) (w : World) : Calls Tryz.prog 89 #[sh.val, .int .i64 i] w fun e w' => e = .returned (.tuple #[.int .i64 0, .int .i64 2]) ∧ Below w.heap.size w w' :=
  Shape.robject_of (q := false) (hide (fun w1 => rwithin_q (decide_eq_false ht) w1)) (hide (fun w1 => Shape.place_arg h _ w1)) w
theorem robject_yes {sh : Shp} (h : Shape.R5 sh.a sh.b sh.c sh.d sh.e) {i : Int} (ht : there sh i) (w : World) : Calls Tryz.prog 89 #[sh.val, .int .i64 i] w fun e w' => e = .returned (.tuple #[.int .i64 (headAt sh i), .int .i64 0]) ∧ Below w.heap.size w w' := by
  refine Shape.robject_of (q := true) (hide (fun w1 => rwithin_q (decide_eq_true ht) w1)) (hide (fun w1 => ?_)) w
  have e : IntKind.i64.wrap (IntKind.i64.wrap (IntKind.i64.wrap (IntKind.i64.wrap (8 + sh.c) + IntKind.i64.wrap (sh.c * sh.d)) + sh.e) + IntKind.i64.wrap (IntKind.i64.wrap (i - 1) * IntKind.i64.wrap (3 + sh.b))) = headAt sh i := by
    unfold headAt
    rw [if_pos ht]
    obtain ⟨⟨a1, a2⟩, ⟨b1, b2⟩, ⟨c1, c2⟩, ⟨d1, d2⟩, f1, f2⟩ := h
    have p1 : 0 ≤ sh.c * sh.d ∧ sh.c * sh.d ≤ 7 * 8 := ⟨Int.mul_nonneg (by omega) (by omega), Int.mul_le_mul c2 d2 (by omega) (by omega)⟩
    have p2 : 0 ≤ (i - 1) * (3 + sh.b) ∧ (i - 1) * (3 + sh.b) ≤ 64 * 7 := ⟨Int.mul_nonneg (by have := ht.1; omega) (by omega), Int.mul_le_mul (by have := ht.2; omega) (by omega) (by omega) (by omega)⟩
    have i1 := ht.1
    have i2 := ht.2
    obtain ⟨p, hp⟩ : ∃ p, sh.c * sh.d = p := ⟨_, rfl⟩
    obtain ⟨q, hq⟩ : ∃ q, (i - 1) * (3 + sh.b) = q := ⟨_, rfl⟩
    rw [hp] at p1
    rw [hq] at p2
    rw [Shape.wI (x := i - 1) (by omega) (by omega), Shape.wI (x := 3 + sh.b) (by omega) (by omega), Shape.wI (x := 8 + sh.c) (by omega) (by omega), hp, hq, Shape.wI (x := p) (by omega) (by omega), Shape.wI (x := q) (by omega) (by omega), Shape.wI (x := 8 + sh.c + p) (by omega) (by omega), Shape.wI (x := 8 + sh.c + p + sh.e) (by omega) (by omega), Shape.wI (by omega) (by omega)]
  have K := Shape.place_ok (s5 := sh.f) h (IntKind.i64.wrap (IntKind.i64.wrap (IntKind.i64.wrap (IntKind.i64.wrap (8 + sh.c) + IntKind.i64.wrap (sh.c * sh.d)) + sh.e) + IntKind.i64.wrap (IntKind.i64.wrap (i - 1) * IntKind.i64.wrap (3 + sh.b)))) w1
  rw [e] at K ⊢
  exact K
set_option maxHeartbeats 4000000 in
theorem rhead_any {sh : Shp} (h : Shape.R5 sh.a sh.b sh.c sh.d sh.e) (i : Int) (w : World) : Calls Tryz.prog 66 #[sh.val, .int .i64 i] w fun e w' => e = .returned (.int .i64 (headAt sh i)) ∧ Below w.heap.size w w' := by
  by_cases ht : there sh i
  · have OB := hide (fun w1 : World => robject_yes h ht w1)
    obtain ⟨p, hp⟩ : ∃ p, headAt sh i = p := ⟨_, rfl⟩
    rw [hp] at OB ⊢
    clear h ht hp
    obtain ⟨s0, s1, s2, s3, s4, s5⟩ := sh
    simp only [Shp.val] at OB ⊢
    obtain ⟨W0, hW0, B0, K⟩ := Shape.box w s0 s1 s2 s3 s4 s5
    have HB := hide B0
    obtain ⟨-, l0, x0, x1, x2, x3, x4, x5⟩ := K.out W0 (Below.refl _ _)
    clear B0
    go_enter Tryz.func66, Tryz.ntmps66
    go_wp2_with (go_at_call 89; refine (OB.out _).mono ?_; rintro e w1 ⟨rfl, hb1⟩; have HB1 := hide (HB.out.trans (hb1.mono HB.out.size)); clear hb1)
    go_ret
    exact ⟨rfl, HB1.out⟩
  · have OB := hide (fun w1 : World => robject_no h ht w1)
    rw [show headAt sh i = -1 from by simp [headAt, ht]]
    clear h ht
    obtain ⟨s0, s1, s2, s3, s4, s5⟩ := sh
    simp only [Shp.val] at OB ⊢
    obtain ⟨W0, hW0, B0, K⟩ := Shape.box w s0 s1 s2 s3 s4 s5
    have HB := hide B0
    obtain ⟨-, l0, x0, x1, x2, x3, x4, x5⟩ := K.out W0 (Below.refl _ _)
    clear B0
    go_enter Tryz.func66, Tryz.ntmps66
    go_wp2_with (go_at_call 89; refine (OB.out _).mono ?_; rintro e w1 ⟨rfl, hb1⟩; have HB1 := hide (HB.out.trans (hb1.mono HB.out.size)); clear hb1)
    go_ret
    exact ⟨rfl, HB1.out⟩
theorem head_cases {sh : Shp} (h : Shape.R5 sh.a sh.b sh.c sh.d sh.e) (i : Int) : (there sh i ∧ 8 ≤ headAt sh i ∧ headAt sh i ≤ 1000 ∧ linkAt sh i = headAt sh i + 1) ∨ (¬ there sh i ∧ headAt sh i = -1 ∧ linkAt sh i = -1) := by
  by_cases ht : there sh i
  · refine .inl ⟨ht, ?_⟩
    unfold headAt linkAt
    rw [if_pos ht, if_pos ht]
    obtain ⟨⟨a1, a2⟩, ⟨b1, b2⟩, ⟨c1, c2⟩, ⟨d1, d2⟩, f1, f2⟩ := h
    have p1 : 0 ≤ sh.c * sh.d ∧ sh.c * sh.d ≤ 7 * 8 := ⟨Int.mul_nonneg (by omega) (by omega), Int.mul_le_mul c2 d2 (by omega) (by omega)⟩
    have p2 : 0 ≤ (i - 1) * (3 + sh.b) ∧ (i - 1) * (3 + sh.b) ≤ 64 * 7 := ⟨Int.mul_nonneg (by have := ht.1; omega) (by omega), Int.mul_le_mul (by have := ht.2; omega) (by omega) (by omega) (by omega)⟩
    omega
  · exact .inr ⟨ht, by simp [headAt, ht], by simp [linkAt, ht]⟩
set_option maxHeartbeats 4000000 in
theorem rlink_any {sh : Shp} (h : Shape.R5 sh.a sh.b sh.c sh.d sh.e) (i : Int) (w : World) : Calls Tryz.prog 69 #[sh.val, .int .i64 i] w fun e w' => e = .returned (.int .i64 (linkAt sh i)) ∧ Below w.heap.size w w' := by
  have HD := hide (fun w1 : World => rhead_any h i w1)
  rcases head_cases h i with ⟨-, h1, h2, h3⟩ | ⟨-, h1, h2⟩
  · rw [h3]
    obtain ⟨p, hp⟩ : ∃ p, headAt sh i = p := ⟨_, rfl⟩
    rw [hp] at HD h1 h2 ⊢
    clear h hp h3
    have g1 : wrap64 (p + 1) = p + 1 := by unfold wrap64; omega
    have g2 : decide (p < 0) = false := by simp; omega
    have g3 : ¬ p < 0 := by omega
    obtain ⟨s0, s1, s2, s3, s4, s5⟩ := sh
    simp only [Shp.val] at HD ⊢
    obtain ⟨W0, hW0, B0, K⟩ := Shape.box w s0 s1 s2 s3 s4 s5
    have HB := hide B0
    obtain ⟨-, l0, x0, x1, x2, x3, x4, x5⟩ := K.out W0 (Below.refl _ _)
    clear B0
    go_enter Tryz.func69, Tryz.ntmps69
    go_wp2_with (go_at_call 66; refine (HD.out _).mono ?_; rintro e w1 ⟨rfl, hb1⟩; have HB1 := hide (HB.out.trans (hb1.mono HB.out.size)); clear hb1)
    go_ret
    exact ⟨rfl, HB1.out⟩
  · rw [h2]
    rw [h1] at HD
    clear h h1 h2
    obtain ⟨s0, s1, s2, s3, s4, s5⟩ := sh
    simp only [Shp.val] at HD ⊢
    obtain ⟨W0, hW0, B0, K⟩ := Shape.box w s0 s1 s2 s3 s4 s5
    have HB := hide B0
    obtain ⟨-, l0, x0, x1, x2, x3, x4, x5⟩ := K.out W0 (Below.refl _ _)
    clear B0
    go_enter Tryz.func69, Tryz.ntmps69
    go_wp2_with (go_at_call 66; refine (HD.out _).mono ?_; rintro e w1 ⟨rfl, hb1⟩; have HB1 := hide (HB.out.trans (hb1.mono HB.out.size)); clear hb1)
    go_ret
    exact ⟨rfl, HB1.out⟩
end Shd
end Go.Proofs.YtnodkeoikamonaaGreat
