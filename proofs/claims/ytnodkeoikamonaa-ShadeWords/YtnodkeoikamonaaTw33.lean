/-
  Lemmas: ShadeQ, ShadeL, VwN, VwM, LtR, VsF.
-/
import Derived.Test.YtnodkeoikamonaaTw32
import Derived.Test.YtnodkeoikamonaaTw18
import Derived.Test.YtnodkeoikamonaaTw21
import Derived.Test.YtnodkeoikamonaaTw20
import Derived.Maps.AppendAt
import Derived.Laws.CopyOwn
import Derived.Laws.AppendOwnNone
import Derived.Orders
import Derived.Test.YtnodkeoikamonaaTw24
/-
  Shade's Play, whatever it is given.
-/
namespace Go.Proofs.Ytnodkeoikamonaa
open Go.RowKit
set_option linter.unusedVariables false
set_option linter.unusedSimpArgs false
set_option maxRecDepth 20000
namespace Shd
def sizeOf (sh : Shp) : Int := 8 + sh.c + sh.c * sh.d + sh.e + sh.a * (3 + sh.b)
theorem callSize (args : Array Value) (w : World) : (callFunc 34 args).run Try.prog w = .ok (.enter 34 args) w := by simp [go_sem]
theorem size_eq {sh : Shp} {o s hh r k : Nat} (e0 : sh.a = o) (e1 : sh.b = s) (e2 : sh.c = hh) (e3 : sh.d = r) (e4 : sh.e = k) : sizeOf sh = (Shape.size ⟨o, s, hh, r, k⟩ : Nat) := by
  unfold sizeOf Shape.size Shape.bO Shape.bK Shape.bR Shape.ow
  rw [e0, e1, e2, e3, e4]
  push_cast
  rfl
theorem size_ok {sh : Shp} (h : Shape.R5 sh.a sh.b sh.c sh.d sh.e) (w : World) : Calls Try.prog 34 #[sh.val] w fun e w' => e = .returned (.tuple #[.int .i64 (sizeOf sh), .int .i64 0]) ∧ w.grownBy w' none := by
  obtain ⟨o, s, hh, r, k, e0, e1, e2, e3, e4, H⟩ := natR5 h
  rw [size_eq e0 e1 e2 e3 e4]
  obtain ⟨s0, s1, s2, s3, s4, s5⟩ := sh
  simp only at e0 e1 e2 e3 e4
  subst e0 e1 e2 e3 e4
  refine (Shape.size_ok (s5 := s5) H w).mono ?_
  rintro e w' ⟨rfl, hb⟩
  exact ⟨rfl, below_grown hb none⟩
theorem size_bad {sh : Shp} (h : ¬ Shape.R5 sh.a sh.b sh.c sh.d sh.e) (w : World) : Calls Try.prog 34 #[sh.val] w fun e w' => e = .returned (.tuple #[.int .i64 0, .int .i64 120]) ∧ w.grownBy w' none := by
  refine (Shape.size_bad h w).mono ?_
  rintro e w' ⟨rfl, hb⟩
  exact ⟨rfl, below_grown hb none⟩
theorem size_nat {sh : Shp} (h : Shape.R5 sh.a sh.b sh.c sh.d sh.e) : ∃ want : Nat, (want : Int) = sizeOf sh ∧ 13 ≤ want ∧ want ≤ 600 := by
  obtain ⟨o, s, hh, r, k, e0, e1, e2, e3, e4, H⟩ := natR5 h
  refine ⟨_, (size_eq e0 e1 e2 e3 e4).symm, ?_, ?_⟩
  · have := Shape.sizes H
    unfold Shape.size Shape.bO Shape.bK Shape.bR
    have h1 : 1 ≤ hh := H.h1
    simp only at this ⊢
    omega
  · exact (Shape.sizes H).2.2.2.2
variable {w : World} {ao aoh aos : Option Addr} {cap caph caps : Nat} {P : Par} {f : Nat → Int} {most : Int} {sh : Shp}
theorem play_any {R : Ending → World → Prop} {Q : Ending → World → Prop}
    (h : Calls Try.prog 33 #[.func (.func 34) #[] #[], .func (.func 35) #[] #[], sh.val, .slice ao P.n cap, .slice aoh P.nh caph, .slice aos P.ns caps, .int .i64 most]
      ((w.alloc (.cells #[.int .i64 sh.a, .int .i64 sh.b, .int .i64 sh.c, .int .i64 sh.d, .int .i64 sh.e, .int .i64 sh.f] 23)).alloc (.cells #[.slice none 0 0, .slice none 0 0, .bool false] 44)) Q)
    (hs : ∀ e w', Q e w' → Below (w.heap.size + 2) ((w.alloc (.cells #[.int .i64 sh.a, .int .i64 sh.b, .int .i64 sh.c, .int .i64 sh.d, .int .i64 sh.e, .int .i64 sh.f] 23)).alloc (.cells #[.slice none 0 0, .slice none 0 0, .bool false] 44)) w' ∧
      ∃ sa k sc wa n wc en aa m ac er, e = .returned (tv3 sa k sc wa n wc en aa m ac er) ∧ R e (((w'.setCell ⟨w.heap.size + 1, 0, none⟩ (.slice sa k sc)).setCell ⟨w.heap.size + 1, 1, none⟩ (.slice wa n wc)).setCell ⟨w.heap.size + 1, 2, none⟩ (.bool en))) :
    Calls Try.prog 10 #[sh.val, .slice ao P.n cap, .slice aoh P.nh caph, .slice aos P.ns caps, .int .i64 most] w R := by
  obtain ⟨s0, s1, s2, s3, s4, s5⟩ := sh
  simp only [Shp.val] at h hs ⊢
  have HH := hide h
  have HS := hide hs
  clear h hs
  go_enter Try.func10, Try.ntmps10
  go_wp2_with fail
  refine HH.out.mono ?_
  intro e w3 hq
  obtain ⟨hb, sa, k, sc, wa, n, wc, en, aa, m, ac, er, rfl, hR⟩ := HS.out e w3 hq
  have u0 := hb.cell (p := ⟨w.heap.size + 1, 0, none⟩) (by simp)
  have u1 := hb.cell (p := ⟨w.heap.size + 1, 1, none⟩) (by simp)
  have u2 := hb.cell (p := ⟨w.heap.size + 1, 2, none⟩) (by simp)
  have v0 := hb.frozen (p := ⟨w.heap.size + 1, 0, none⟩) (by simp)
  have v1 := hb.frozen (p := ⟨w.heap.size + 1, 1, none⟩) (by simp)
  have v2 := hb.frozen (p := ⟨w.heap.size + 1, 2, none⟩) (by simp)
  simp at u0 u1 u2 v0 v1 v2
  have HR := hide hR
  clear hb hR hq
  unfold tv3
  go_wp2_with fail
  go_light
  refine bodyPost_ret (v := tv3 sa k sc wa n wc en aa m ac er) ?_ rfl HR.out
  simp [results, Try.results10, go_sem, tv3, *]
theorem play_all {want : Nat} (h5 : Shape.R5 sh.a sh.b sh.c sh.d sh.e) (hwant : (want : Int) = sizeOf sh) (S : Sees w w.heap.size ao P.n f) (hf : ∀ i, i < P.n → 0 ≤ f i ∧ f i ≤ 18446744073709551615) (SH : SeesH w w.heap.size aoh P.nh P.jn P.jb) (hn63 : P.nh ≤ 9223372036854775807) (SI : SeesI w w.heap.size aos P.ns P.sched) (hjw : ∀ h, h < P.nh → ∀ j, j < P.jn h → (P.jb h j).wf) :
    Calls Try.prog 10 #[sh.val, .slice ao P.n cap, .slice aoh P.nh caph, .slice aos P.ns caps, .int .i64 most] w (LAll (kShd false sh) want w P f most) := by
  have b0 : Below w.heap.size w ((w.alloc (.cells #[.int .i64 sh.a, .int .i64 sh.b, .int .i64 sh.c, .int .i64 sh.d, .int .i64 sh.e, .int .i64 sh.f] 23)).alloc (.cells #[.slice none 0 0, .slice none 0 0, .bool false] 44)) := ((Below.refl _ w).alloc (Nat.le_refl _) _).alloc (by simp) _
  have sz0 : ((w.alloc (.cells #[.int .i64 sh.a, .int .i64 sh.b, .int .i64 sh.c, .int .i64 sh.d, .int .i64 sh.e, .int .i64 sh.f] 23)).alloc (.cells #[.slice none 0 0, .slice none 0 0, .bool false] 44)).heap.size = w.heap.size + 2 := by simp
  refine play_any (lay_any (K := kShd false sh) (want := want) callSize (fun w' => by rw [hwant]; exact size_ok h5 w') (isKind h5) (fun w' tb sb H => makes h5 H) ((S.below b0 (Nat.le_refl _)).mono (by omega)) hf ((SH.below b0 (Nat.le_refl _)).up (by omega)) hn63 ((SI.below b0 (Nat.le_refl _)).up (by omega)) hjw) ?_
  intro e w' hq
  obtain ⟨sa, k, sc, wa, n, wc, en, aa, m, ac, er, rfl⟩ := hq.shape
  have hb := hq.1
  rw [sz0] at hb
  exact ⟨hb, sa, k, sc, wa, n, wc, en, aa, m, ac, er, rfl, hq.up b0 (touch3 w' (w.heap.size + 1) (.slice sa k sc) (.slice wa n wc) (.bool en)) (by omega) (by omega)⟩
end Shd
end Go.Proofs.Ytnodkeoikamonaa
/-
  Shade: the statements' own example.
-/
namespace Go.Proofs.Ytnodkeoikamonaa
open Go.RowKit
set_option linter.unusedVariables false
set_option linter.unusedSimpArgs false
set_option maxRecDepth 20000
namespace Shd
def f0 : Nat → Int := fun i => if i = 10 then 1 else 0
theorem f0_bd (i : Nat) : 0 ≤ f0 i ∧ f0 i ≤ 18446744073709551615 := by unfold f0; split <;> omega
namespace Exam
def P0 : Par := { n := 13, nh := 1, jn := fun _ => 2, jb := fun _ j => if j = 0 then ⟨1, 0, 0, 1, 1⟩ else ⟨2, 0, 0, 0, 0⟩, ns := 0, sched := fun _ => 0 }
def s9 : St (kShd false ⟨1, 0, 1, 1, 0, 0⟩) := runSt P0 (st0 (kShd false ⟨1, 0, 1, 1, 0, 0⟩) P0 f0) 99
theorem k9 : s9.k = 8 := by decide +kernel
theorem e9 : Go.Proofs.Ytnodkeoikamonaa.cnt (s9.going P0) P0.nh = 0 := by decide +kernel
theorem d9 : s9.done 0 = 2 := by decide +kernel
theorem a1 : (s9.ans 0 1).val = 1 ∧ (s9.ans 0 1).ok = true := by decide +kernel
theorem w9 : s9.f 10 = 3 := by decide +kernel
end Exam
set_option maxHeartbeats 4000000 in
theorem small_any (w : World) : Calls Try.prog 23 #[] w fun e w' => ∃ g, e = .returned (.tuple #[.agg #[.int .i64 1, .int .i64 0, .int .i64 1, .int .i64 1, .int .i64 0, .int .i64 0], .slice (some ⟨g, 0, none⟩) 13 13]) ∧ IsRow w' g 13 13 f0 ∧ w.heap.size ≤ g ∧ Below w.heap.size w w' := by
  go_enter Try.func23, Try.ntmps23
  go_wp2
  refine bodyPost_ret (v := .tuple #[.agg #[.int .i64 1, .int .i64 0, .int .i64 1, .int .i64 1, .int .i64 0, .int .i64 0], .slice (some ⟨w.heap.size + 1, 0, none⟩) 13 13]) ?res rfl ⟨w.heap.size + 1, rfl, ?row, by omega, ((Below.refl _ w).alloc (Nat.le_refl _) _).alloc (by simp) _⟩
  case res => simp [results, Try.results23, go_sem]
  case row =>
    refine ⟨Nat.le_refl _, by unfold maxLen; omega, ⟨fun i => .int .u64 (f0 i), ?_, fun i hi => rfl⟩, fun i _ => f0_bd i⟩
    have := World.rowIs_alloc' (w.alloc (.cells #[.int .i64 1, .int .i64 0, .int .i64 1, .int .i64 1, .int .i64 0, .int .i64 0] 23)) #[.int .u64 0, .int .u64 0, .int .u64 0, .int .u64 0, .int .u64 0, .int .u64 0, .int .u64 0, .int .u64 0, .int .u64 0, .int .u64 0, .int .u64 1, .int .u64 0, .int .u64 0] 30 13 (f := fun i => .int .u64 (f0 i)) rfl (fun i hi => by
      match i, hi with
      | 0, _ | 1, _ | 2, _ | 3, _ | 4, _ | 5, _ | 6, _ | 7, _ | 8, _ | 9, _ | 10, _ | 11, _ | 12, _ => rfl)
    rwa [World.size_alloc] at this
theorem exam_play (v : World) (g : Nat) (R : IsRow v g 13 13 f0) (hgl : g < v.heap.size) : Calls Try.prog 10 #[(⟨1, 0, 1, 1, 0, 0⟩ : Shp).val, .slice (some ⟨g, 0, none⟩) 13 13, .slice (some ⟨v.heap.size + 1, 0, none⟩) 1 1, .slice none 0 0, .int .i64 99]
    ((v.alloc (.cells #[.int .i64 1, .int .i64 0, .int .i64 0, .int .i64 1, .int .u64 1, .int .i64 2, .int .i64 0, .int .i64 0, .int .i64 0, .int .u64 0] 41)).alloc (.cells #[.slice (some ⟨v.heap.size, 0, none⟩) 2 2] 39)) (LAll (kShd false ⟨1, 0, 1, 1, 0, 0⟩) 13 ((v.alloc (.cells #[.int .i64 1, .int .i64 0, .int .i64 0, .int .i64 1, .int .u64 1, .int .i64 2, .int .i64 0, .int .i64 0, .int .i64 0, .int .u64 0] 41)).alloc (.cells #[.slice (some ⟨v.heap.size, 0, none⟩) 2 2] 39)) Exam.P0 f0 99) := by
  have B0 : Below v.heap.size v ((v.alloc (.cells #[.int .i64 1, .int .i64 0, .int .i64 0, .int .i64 1, .int .u64 1, .int .i64 2, .int .i64 0, .int .i64 0, .int .i64 0, .int .u64 0] 41)).alloc (.cells #[.slice (some ⟨v.heap.size, 0, none⟩) 2 2] 39)) := ((Below.refl _ v).alloc (Nat.le_refl _) _).alloc (by simp) _
  have R1 := (row_arr v #[.int .i64 1, .int .i64 0, .int .i64 0, .int .i64 1, .int .u64 1, .int .i64 2, .int .i64 0, .int .i64 0, .int .i64 0, .int .u64 0] 41).alloc (.cells #[.slice (some ⟨v.heap.size, 0, none⟩) 2 2] 39)
  have R3 := row_arr (v.alloc (.cells #[.int .i64 1, .int .i64 0, .int .i64 0, .int .i64 1, .int .u64 1, .int .i64 2, .int .i64 0, .int .i64 0, .int .i64 0, .int .u64 0] 41)) #[.slice (some ⟨v.heap.size, 0, none⟩) 2 2] 39
  simp only [World.size_alloc] at R1 R3
  refine play_all (sh := ⟨1, 0, 1, 1, 0, 0⟩) (P := Exam.P0) (f := f0) (most := 99) (want := 13) (by unfold Shape.R5; decide) (by decide) ?_ (fun i _ => f0_bd i) ?_ (by decide) ?_ (fun h _ j _ => ?_)
  · exact (R.sees.below B0 (Nat.le_refl _)).mono (by simp; omega)
  · intro h hh
    have : h < 1 := hh
    match h, this with
    | 0, _ =>
      refine ⟨v.heap.size + 1, 0, some ⟨v.heap.size, 0, none⟩, 2, rfl, R3.lt, R3.cell (i := 0) (by simp), ?_⟩
      intro i hi
      refine ⟨v.heap.size, 0, rfl, R1.lt, fun q hq => ?_⟩
      have : i < 2 := hi
      match i, this, q, hq with
      | 0, _, 0, _ => exact R1.cell (i := 0) (by decide)
      | 0, _, 1, _ => exact R1.cell (i := 1) (by decide)
      | 0, _, 2, _ => exact R1.cell (i := 2) (by decide)
      | 0, _, 3, _ => exact R1.cell (i := 3) (by decide)
      | 0, _, 4, _ => exact R1.cell (i := 4) (by decide)
      | 1, _, 0, _ => exact R1.cell (i := 5) (by decide)
      | 1, _, 1, _ => exact R1.cell (i := 6) (by decide)
      | 1, _, 2, _ => exact R1.cell (i := 7) (by decide)
      | 1, _, 3, _ => exact R1.cell (i := 8) (by decide)
      | 1, _, 4, _ => exact R1.cell (i := 9) (by decide)
  · intro j hj
    exact absurd hj (Nat.not_lt_zero j)
  · simp only [Exam.P0, Jb.wf]
    repeat' split
    all_goals decide
set_option maxHeartbeats 4000000 in
theorem awake_any (w : World) : Calls Try.prog 7 #[] w fun e w' => e = .returned (.bool true) ∧ Below w.heap.size w w' := by
  have SM := hide (fun w' : World => small_any w')
  have EX := hide exam_play
  simp only [Shp.val] at EX
  go_enter Try.func7, Try.ntmps7
  go_wp2_with fail
  refine (SM.out _).mono ?_
  rintro e w1 ⟨g, rfl, hr1, hg1, hb1⟩
  have HR1 := hide hr1
  have HB1 := hide hb1
  clear hr1 hb1
  go_upto_region 2 with (fail)
  have hr1 := HR1.out
  have hb1 := HB1.out
  clear HR1 HB1
  obtain ⟨W0, hW0⟩ : ∃ W0, w1.alloc (.cells #[.int .i64 1, .int .i64 0, .int .i64 1, .int .i64 1, .int .i64 0, .int .i64 0] 23) = W0 := ⟨_, rfl⟩
  have R0 : W0.rowIs w1.heap.size 23 6 (fun i => (#[Value.int .i64 1, .int .i64 0, .int .i64 1, .int .i64 1, .int .i64 0, .int .i64 0]).getD i undef) := by rw [← hW0]; exact row_arr w1 _ _
  have c0 : W0.cell? ⟨w1.heap.size, 0, none⟩ = some (.int .i64 1) := R0.cell (i := 0) (by decide)
  have c1 : W0.cell? ⟨w1.heap.size, 1, none⟩ = some (.int .i64 0) := R0.cell (i := 1) (by decide)
  have c2 : W0.cell? ⟨w1.heap.size, 2, none⟩ = some (.int .i64 1) := R0.cell (i := 2) (by decide)
  have c3 : W0.cell? ⟨w1.heap.size, 3, none⟩ = some (.int .i64 1) := R0.cell (i := 3) (by decide)
  have c4 : W0.cell? ⟨w1.heap.size, 4, none⟩ = some (.int .i64 0) := R0.cell (i := 4) (by decide)
  have c5 : W0.cell? ⟨w1.heap.size, 5, none⟩ = some (.int .i64 0) := R0.cell (i := 5) (by decide)
  have l0 := R0.lt
  have HR := hide (show IsRow W0 g 13 13 f0 from by rw [← hW0]; exact hr1.alloc _)
  have HB2 := hide (show Below w.heap.size w W0 from by rw [← hW0]; exact hb1.alloc hb1.size _)
  clear hr1 hb1 R0
  rw [hW0]
  clear hW0
  go_wp2_with fail
  refine (EX.out W0 g HR.out HR.out.lt).mono ?_
  rintro e w3 ⟨hb, hcase⟩
  have BX : Below W0.heap.size W0 ((W0.alloc (.cells #[.int .i64 1, .int .i64 0, .int .i64 0, .int .i64 1, .int .u64 1, .int .i64 2, .int .i64 0, .int .i64 0, .int .i64 0, .int .u64 0] 41)).alloc (.cells #[.slice (some ⟨W0.heap.size, 0, none⟩) 2 2] 39)) := ((Below.refl W0.heap.size W0).alloc (Nat.le_refl _) _).alloc (by simp) _
  have BB := hide (HB2.out.trans ((BX.trans (hb.mono (by simp; omega))).mono HB2.out.size))
  clear hb BX c0 c1 c2 c3 c4 c5
  rcases hcase with ⟨er, hle, rfl⟩ | ⟨_, hF, hok, v, rfl, blk, c, g', sv, rfl, H, G, GS, R, hg, hne⟩
  · refine absurd ⟨?_, ?_⟩ (show ¬ (Fine Exam.P0 99 ∧ AllOk (kShd false ⟨1, 0, 1, 1, 0, 0⟩) Exam.P0) from by rcases hle with ⟨h, _⟩ | ⟨_, h⟩; exact absurd rfl h; exact h.not)
    · refine ⟨by decide, ?_, by decide, by decide, by decide⟩
      rintro (h | ⟨h, _, h2⟩)
      · exact absurd h (by decide)
      · have h3 : 256 < 2 := h2
        omega
    · intro h hh j hj
      have : h < 1 := hh
      match h, this with
      | 0, _ =>
        have : j < 2 := hj
        match j, this with
        | 0, _ => decide
        | 1, _ => decide
  · have hst : runSt Exam.P0 (st0 (kShd false ⟨1, 0, 1, 1, 0, 0⟩) Exam.P0 f0) (Int.toNat 99) = Exam.s9 := rfl
    rw [hst] at G GS R ⊢
    rw [Exam.e9]
    obtain ⟨b, cap, rfl, hbl, _, hcs⟩ := grows_cell GS H (stepCells_length _ _) (by rw [Exam.k9]; decide)
    obtain ⟨A, eA, hA⟩ := G.answers
    have a0 := hA 0 (by decide)
    rw [Exam.d9] at a0
    obtain ⟨b', cap', eA0, hbl', _, hcs'⟩ := grows_cell a0 H (ansCells_length _ _) (by decide)
    have ac := hcs' _ _ (ansCells_get (Exam.s9.ans 0) 2 1 1 (by decide) (by decide))
    have ak := hcs' _ _ (ansCells_get (Exam.s9.ans 0) 2 1 0 (by decide) (by decide))
    simp only [Ans.cell, Exam.a1.1, Exam.a1.2] at ac ak
    have ah := H.cell eA (i := 0) (show 0 < 1 by decide)
    simp only [eA0] at ah
    have la := H.lt eA
    rw [Exam.k9]
    have n1 : Exam.P0.n = 13 := rfl
    have rw10 := R.cell (i := 10) (show 10 < 13 by decide)
    rw [Exam.w9] at rw10
    have lg10 := R.lt
    have n2 : Exam.P0.nh = 1 := rfl
    rw [n1, n2]
    obtain ⟨ba, hba⟩ : ∃ ba, blk .answers = ba := ⟨_, rfl⟩
    rw [hba] at ah la ⊢
    simp only [Nat.zero_mul, Nat.zero_add, Nat.reduceMul, Nat.reduceAdd] at ac ak
    clear H G GS R hne hcs hcs' hA a0 hok hst hF
    simp only [decide_true]
    go_wp2_with fail
    go_ret
    exact ⟨rfl, BB.out.alloc (by have := BB.out.size; omega) _⟩
end Shd
end Go.Proofs.Ytnodkeoikamonaa
/-
  View, pure: a list as it is seen; the view of a memory; what is sound.
-/
namespace Go.Proofs.Ytnodkeoikamonaa
set_option linter.unusedVariables false
set_option linter.unusedSimpArgs false
namespace Vw
open Shape
def al (o : Nat) (nx : Int → Int) : Nat → List Int → Int → List Int × Int
  | 0, seen, cur => (seen, cur)
  | k + 1, seen, cur => if 1 ≤ cur ∧ cur ≤ (o : Int) ∧ ¬ cur ∈ seen then al o nx k (seen ++ [cur]) (nx cur) else (seen, cur)
structure Sn (o : Nat) (seen : List Int) : Prop where
  nodup : seen.Nodup
  range : ∀ c ∈ seen, 1 ≤ c ∧ c ≤ (o : Int)
theorem Sn.nil (o : Nat) : Sn o [] := ⟨List.nodup_nil, by simp⟩
theorem Sn.len : ∀ {o : Nat} {seen : List Int}, Sn o seen → seen.length ≤ o
  | 0, [], h => Nat.le_refl _
  | 0, c :: l, h => by have := h.range c (by simp); omega
  | o + 1, seen, h => by
    by_cases hm : ((o + 1 : Nat) : Int) ∈ seen
    · have h1 : Sn o (seen.erase ((o + 1 : Nat) : Int)) := by
        refine ⟨h.nodup.erase _, fun c hc => ?_⟩
        have h2 := (List.Nodup.mem_erase_iff h.nodup).1 hc
        have h3 := h.range c h2.2
        have h4 := h2.1
        omega
      have h5 := h1.len
      rw [List.length_erase_of_mem hm] at h5
      omega
    · have h1 : Sn o seen := by
        refine ⟨h.nodup, fun c hc => ?_⟩
        have h3 := h.range c hc
        have h4 : ¬ c = ((o + 1 : Nat) : Int) := fun e => hm (e ▸ hc)
        omega
      have h5 := h1.len
      omega
theorem Sn.more {o : Nat} {seen : List Int} {c : Int} (h : Sn o seen) (h1 : 1 ≤ c) (h2 : c ≤ (o : Int)) (h3 : ¬ c ∈ seen) : Sn o (seen ++ [c]) := by
  refine ⟨?_, ?_⟩
  · rw [List.nodup_append]
    refine ⟨h.nodup, by simp, ?_⟩
    intro a ha b hb e
    simp at hb
    subst hb
    subst e
    exact h3 ha
  · intro a ha
    rcases List.mem_append.1 ha with ha | ha
    · exact h.range a ha
    · simp at ha; subst ha; exact ⟨h1, h2⟩
theorem al_sn (o : Nat) (nx : Int → Int) : ∀ (k : Nat) (seen : List Int) (cur : Int), Sn o seen → Sn o (al o nx k seen cur).1
  | 0, seen, cur, h => h
  | k + 1, seen, cur, h => by
    simp only [al]
    split
    · rename_i h1
      exact al_sn o nx k _ _ (h.more h1.1 h1.2.1 h1.2.2)
    · exact h
structure Ob where
  us : Bool
  li : Bool
  fi : Bool
  ta : Bool
  ag : Int
  ge : Int
  lk : Int
  nx : Int
  ns : Nat
  sl : Nat → Int
structure Cv where
  ph : Int
  co : Int
  ro : Int
  na : Nat
  ac : Nat → Int
  nr : Nat
  rn : Nat → Nat
  rt : Nat → Nat → Int
  nw : Nat
  wk : Nat → Int
  no : Nat
  ob : Nat → Ob
  fr : List Int
  gr : List Int
  qu : List Int
  cn : Nat → Int
def pO (x : Sh) (j : Nat) : Nat := bO x + j * ow x
def bitB (y v : Int) : Bool := y / v % 2 == 1
def obAt (x : Sh) (f : Nat → Int) (j : Nat) : Ob :=
  ⟨bitB (f (pO x j)) 1, f (pO x j) / 2 % 2 == f 0 / 8 % 2, bitB (f (pO x j)) 4, bitB (f (pO x j)) 8, f (pO x j) / 256 % 256, f (pO x j) / 4294967296, f (pO x j + 1), f (pO x j + 2), x.s, fun q => f (pO x j + (3 + q))⟩
def nxt (x : Sh) (f : Nat → Int) (over : Nat) (c : Int) : Int := f (pO x (c.toNat - 1) + over) % 4294967296
def lst (x : Sh) (f : Nat → Int) (at' over : Nat) : List Int × Int := al x.o (nxt x f over) x.o [] (f at' % 4294967296)
def cv (x : Sh) (f : Nat → Int) : Cv :=
  ⟨f 0 % 8, f 0 / 8 % 2, f 0 / 256, x.h, fun i => f (8 + i), x.h, fun _ => x.r, fun j q => f (bR x + j * x.r + q), x.k, fun b => f (bK x + b), x.o, obAt x f, (lst x f 1 1).1, (lst x f 2 1).1, (lst x f 3 2).1, fun i => f (4 + i)⟩
end Vw
end Go.Proofs.Ytnodkeoikamonaa
/-
  View: a view in memory: what is seen of it, what is owned of it; a memory's value; copied, the package's and the document's.
-/
namespace Go.Proofs.Ytnodkeoikamonaa
open Go.RowKit
set_option linter.unusedVariables false
set_option linter.unusedSimpArgs false
set_option linter.unnecessarySimpa false
set_option maxRecDepth 20000
namespace Vw
open Shape
def wcs (n : Nat) (f : Nat → Int) : List Value := (List.range n).map fun i => Value.int .u64 (f i)
def ncs (l : List Int) : List Value := l.map fun c => Value.int .i64 c
theorem wcs_len (n : Nat) (f : Nat → Int) : (wcs n f).length = n := by simp [wcs]
theorem wcs_get {n : Nat} (f : Nat → Int) {j : Nat} (h : j < n) : (wcs n f)[j]? = some (.int .u64 (f j)) := by simp [wcs, h]
theorem wcs_one (n : Nat) (f : Nat → Int) : ∀ u ∈ wcs n f, u.oneCell' = true := by intro u hu; obtain ⟨i, _, rfl⟩ := List.mem_map.1 hu; rfl
def Ob.cell (b : Ob) (sv : Value) : Nat → Value
  | 0 => .bool b.us
  | 1 => .bool b.li
  | 2 => .bool b.fi
  | 3 => .bool b.ta
  | 4 => .int .i64 b.ag
  | 5 => .int .u64 b.ge
  | 6 => .int .u64 b.lk
  | 7 => .int .u64 b.nx
  | _ => sv
def Ob.cells (b : Ob) (sv : Value) : List Value := [.bool b.us, .bool b.li, .bool b.fi, .bool b.ta, .int .i64 b.ag, .int .u64 b.ge, .int .u64 b.lk, .int .u64 b.nx, sv]
structure Av where
  aa : Option Addr
  ca : Nat
  ra : Option Addr
  cr : Nat
  wa : Option Addr
  cw : Nat
  oa : Option Addr
  cb : Nat
  fa : Option Addr
  cf : Nat
  ga : Option Addr
  cg : Nat
  qa : Option Addr
  cq : Nat
def vl (c : Cv) (a : Av) : Value := .agg #[.int .i64 c.ph, .int .i64 c.co, .int .u64 c.ro, .slice a.aa c.na a.ca, .slice a.ra c.nr a.cr, .slice a.wa c.nw a.cw, .slice a.oa c.no a.cb, .slice a.fa c.fr.length a.cf, .slice a.ga c.gr.length a.cg, .slice a.qa c.qu.length a.cq, .int .u64 (c.cn 0), .int .u64 (c.cn 1), .int .u64 (c.cn 2), .int .u64 (c.cn 3)]
def SeesN (w : World) (ao : Option Addr) (l : List Int) : Prop :=
  ∀ j c, l[j]? = some c → ∃ b off, ao = some ⟨b, off, none⟩ ∧ b < w.heap.size ∧ w.cell? ⟨b, off + j, none⟩ = some (.int .i64 c)
theorem SeesN.below {w w' : World} {ao : Option Addr} {l : List Int} (h : SeesN w ao l) (hb : Below w.heap.size w w') : SeesN w' ao l :=
  fun j c hj => by obtain ⟨b, off, e, hl, hc⟩ := h j c hj; exact ⟨b, off, e, Nat.lt_of_lt_of_le hl hb.size, (hb.cell (p := ⟨b, off + j, none⟩) hl).trans hc⟩
theorem sees_on {w w' : World} {ao : Option Addr} {n : Nat} {f : Nat → Int} (h : Sees w w.heap.size ao n f) (hb : Below w.heap.size w w') : Sees w' w'.heap.size ao n f := (h.below hb (Nat.le_refl _)).mono hb.size
structure Shows (w : World) (c : Cv) (a : Av) : Prop where
  ac : Sees w w.heap.size a.aa c.na c.ac
  rt : ∀ j, j < c.nr → ∃ b off ai ci, a.ra = some ⟨b, off, none⟩ ∧ b < w.heap.size ∧ w.cell? ⟨b, off + j, none⟩ = some (.slice ai (c.rn j) ci) ∧ Sees w w.heap.size ai (c.rn j) (c.rt j)
  wk : Sees w w.heap.size a.wa c.nw c.wk
  ob : ∀ j, j < c.no → ∃ b off ai ci, a.oa = some ⟨b, off, none⟩ ∧ b < w.heap.size ∧ (∀ q, q < 9 → w.cell? ⟨b, off + j * 9 + q, none⟩ = some ((c.ob j).cell (.slice ai (c.ob j).ns ci) q)) ∧ Sees w w.heap.size ai (c.ob j).ns (c.ob j).sl
  fr : SeesN w a.fa c.fr
  gr : SeesN w a.ga c.gr
  qu : SeesN w a.qa c.qu
theorem Shows.below {w w' : World} {c : Cv} {a : Av} (h : Shows w c a) (hb : Below w.heap.size w w') : Shows w' c a := by
  refine ⟨sees_on h.ac hb, fun j hj => ?_, sees_on h.wk hb, fun j hj => ?_, h.fr.below hb, h.gr.below hb, h.qu.below hb⟩
  · obtain ⟨b, off, ai, ci, e, hl, hc, hs⟩ := h.rt j hj
    exact ⟨b, off, ai, ci, e, Nat.lt_of_lt_of_le hl hb.size, (hb.cell (p := ⟨b, off + j, none⟩) hl).trans hc, sees_on hs hb⟩
  · obtain ⟨b, off, ai, ci, e, hl, hc, hs⟩ := h.ob j hj
    exact ⟨b, off, ai, ci, e, Nat.lt_of_lt_of_le hl hb.size, fun q hq => (hb.cell (p := ⟨b, off + j * 9 + q, none⟩) hl).trans (hc q hq), sees_on hs hb⟩
structure Owns (w : World) (lo : Nat) (c : Cv) (a : Av) : Prop where
  ac : w.ownsRow lo 30 1 (.slice a.aa c.na a.ca) c.na (wcs c.na c.ac)
  rt : ∃ rs, w.ownsRow lo 24 1 (.slice a.ra c.nr a.cr) c.nr rs ∧ ∀ j, j < c.nr → ∃ ai ci, rs[j]? = some (.slice ai (c.rn j) ci) ∧ w.ownsRow lo 30 1 (.slice ai (c.rn j) ci) (c.rn j) (wcs (c.rn j) (c.rt j))
  wk : w.ownsRow lo 30 1 (.slice a.wa c.nw a.cw) c.nw (wcs c.nw c.wk)
  ob : ∃ os, w.ownsRow lo 56 9 (.slice a.oa c.no a.cb) c.no os ∧ ∀ j, j < c.no → ∃ ai ci, (∀ q, q < 9 → os[j * 9 + q]? = some ((c.ob j).cell (.slice ai (c.ob j).ns ci) q)) ∧ w.ownsRow lo 30 1 (.slice ai (c.ob j).ns ci) (c.ob j).ns (wcs (c.ob j).ns (c.ob j).sl)
  fr : w.ownsRow lo 3 1 (.slice a.fa c.fr.length a.cf) c.fr.length (ncs c.fr)
  gr : w.ownsRow lo 3 1 (.slice a.ga c.gr.length a.cg) c.gr.length (ncs c.gr)
  qu : w.ownsRow lo 3 1 (.slice a.qa c.qu.length a.cq) c.qu.length (ncs c.qu)
theorem owns_cell {w : World} {lo : Nat} {e : TypeId} {size : Nat} {ao : Option Addr} {n cap : Nat} {xs : List Value} (h : w.ownsRow lo e size (.slice ao n cap) n xs) {i : Nat} {u : Value} (hi : xs[i]? = some u) : ∃ b, ao = some ⟨b, 0, none⟩ ∧ lo ≤ b ∧ b < w.heap.size ∧ w.cell? ⟨b, i, none⟩ = some u ∧ w.frozen? ⟨b, i, none⟩ = false := by
  obtain ⟨hl, ⟨h1, rfl⟩ | ⟨g, cap', cur, h1, hb, hg, hc, hm, hs, ht⟩⟩ := h
  · have := (List.getElem?_eq_some_iff.1 hi).1
    simp at hl
    subst hl
    simp at this
  · cases h1
    have hil := (List.getElem?_eq_some_iff.1 hi).1
    refine ⟨g, rfl, hb, (Array.getElem?_eq_some_iff.1 hg).1, ?_, ?_⟩
    · rw [← ht] at hi
      rw [List.getElem?_take] at hi
      split at hi
      · simp only [World.cell?, hg]
        simpa using hi
      · cases hi
    · simp [World.frozen?, hg]
theorem owns_sees {w : World} {lo : Nat} {ao : Option Addr} {n cap : Nat} {f : Nat → Int} (h : w.ownsRow lo 30 1 (.slice ao n cap) n (wcs n f)) : Sees w w.heap.size ao n f := by
  intro j hj
  obtain ⟨b, e, _, hl, hc, _⟩ := owns_cell h (wcs_get f hj)
  exact ⟨b, 0, e, hl, by simpa using hc⟩
theorem owns_keep {w w' : World} {base : Nat} {e : TypeId} {size : Nat} {v : Value} {n : Nat} {xs : List Value} (h : w.ownsRow base e size v n xs) (hk : ∀ b, b < w.heap.size → base ≤ b → w'.heap[b]? = w.heap[b]?) : w'.ownsRow base e size v n xs := by
  obtain ⟨hl, h | ⟨g, cap, cur, rfl, hb, hg, hc, hm, hs, ht⟩⟩ := h
  · exact ⟨hl, .inl h⟩
  · exact ⟨hl, .inr ⟨g, cap, cur, rfl, hb, by rw [hk g (Array.getElem?_eq_some_iff.1 hg).1 hb]; exact hg, hc, hm, hs, ht⟩⟩
theorem owns_on {w w' : World} {base : Nat} {e : TypeId} {size : Nat} {v : Value} {n : Nat} {xs : List Value} (h : w.ownsRow base e size v n xs) (hb : Below w.heap.size w w') : w'.ownsRow base e size v n xs := owns_keep h (fun b hb' _ => hb.block b hb')
theorem owns_ne {w : World} {b1 b2 : Nat} {e1 e2 : TypeId} {s1 s2 : Nat} {v1 v2 : Value} {n1 n2 : Nat} {x1 x2 : List Value} (h : w.ownsRow b1 e1 s1 v1 n1 x1) (h' : w.ownsRow b2 e2 s2 v2 n2 x2) (hne : ¬ e1 = e2) : v1.ownBlock = none ∨ v1.ownBlock ≠ v2.ownBlock := by
  obtain ⟨_, ⟨rfl, _⟩ | ⟨g, cap, cur, rfl, hb, hg, _⟩⟩ := h
  · exact .inl rfl
  · obtain ⟨_, ⟨rfl, _⟩ | ⟨g', cap', cur', rfl, hb', hg', _⟩⟩ := h'
    · exact .inr (by simp [Value.ownBlock])
    · refine .inr (fun e => ?_)
      simp [Value.ownBlock] at e
      subst e
      rw [hg] at hg'
      injection hg' with hg'
      injection hg' with _ h2 _
      exact hne h2
theorem Owns.keep {w w' : World} {lo : Nat} {c : Cv} {a : Av} (h : Owns w lo c a) (hk : ∀ b, b < w.heap.size → lo ≤ b → w'.heap[b]? = w.heap[b]?) : Owns w' lo c a := by
  refine ⟨owns_keep h.ac hk, ?_, owns_keep h.wk hk, ?_, owns_keep h.fr hk, owns_keep h.gr hk, owns_keep h.qu hk⟩
  · obtain ⟨rs, h1, h2⟩ := h.rt
    exact ⟨rs, owns_keep h1 hk, fun j hj => by obtain ⟨ai, ci, h3, h4⟩ := h2 j hj; exact ⟨ai, ci, h3, owns_keep h4 hk⟩⟩
  · obtain ⟨os, h1, h2⟩ := h.ob
    exact ⟨os, owns_keep h1 hk, fun j hj => by obtain ⟨ai, ci, h3, h4⟩ := h2 j hj; exact ⟨ai, ci, h3, owns_keep h4 hk⟩⟩
theorem Owns.below {w w' : World} {lo : Nat} {c : Cv} {a : Av} (h : Owns w lo c a) (hb : Below w.heap.size w w') : Owns w' lo c a := h.keep (fun b hb' _ => hb.block b hb')
theorem news_of {w : World} {B : Nat} {ao : Option Addr} {n : Nat} {f : Nat → Int} (h : Sees w B ao n f) : ∀ ad, ao = some ad → ∀ j u, (wcs n f)[j]? = some u → w.cell? (ad.add j) = some u := by
  intro ad hao j u hu
  have hj : j < n := by have := (List.getElem?_eq_some_iff.1 hu).1; simpa [wcs] using this
  obtain ⟨b, off, he, hbl, hcc⟩ := h j hj
  rw [hao] at he
  cases he
  have : u = .int .u64 (f j) := by rw [wcs_get f hj] at hu; cases hu; rfl
  subst this
  rw [Go.WideShapes.add_plain]
  exact hcc
end Vw
end Go.Proofs.Ytnodkeoikamonaa
/-
  A region that draws its order, guards and calls in it, by a table of what each operation tells: whatever the order; the worlds are said by one invariant.
-/
namespace Go.Proofs.Ytnodkeoikamonaa
open Go.RowKit
set_option linter.unusedVariables false
set_option linter.unusedSimpArgs false
set_option linter.unnecessarySimpa false
namespace Lt
def cnt (g : Nat → Bool) : Nat → Nat
  | 0 => 0
  | i + 1 => cnt g i + (if g i then 1 else 0)
theorem cnt_le (g : Nat → Bool) : ∀ i, cnt g i ≤ i
  | 0 => Nat.le_refl _
  | i + 1 => by have := cnt_le g i; simp only [cnt]; split <;> omega
theorem cnt_zero {g : Nat → Bool} : ∀ {n : Nat}, cnt g n = 0 → ∀ i, i < n → g i = false
  | 0, _, i, hi => absurd hi (by omega)
  | n + 1, h, i, hi => by
    simp only [cnt] at h
    cases hn : g n with
    | true => rw [hn] at h; simp at h
    | false =>
      by_cases e : i = n
      · subst e; exact hn
      · exact cnt_zero (n := n) (by rw [hn] at h; simpa using h) i (by omega)
def up (L : Nat → Bool) (i : Nat) : Nat → Bool := fun j => if j = i then true else L j
theorem up_same (L : Nat → Bool) (i : Nat) : up L i i = true := by simp [up]
theorem up_other (L : Nat → Bool) {i j : Nat} (h : j ≠ i) : up L i j = L j := by simp [up, h]
theorem cnt_up {L : Nat → Bool} {i : Nat} (hi : L i = false) : ∀ n, cnt (fun j => !(up L i) j) n + (if i < n then 1 else 0) = cnt (fun j => !L j) n
  | 0 => by simp [cnt]
  | n + 1 => by
    have ih := cnt_up hi n
    simp only [cnt]
    by_cases h : n = i
    · subst h
      simp only [up_same, Nat.lt_irrefl, if_false, Nat.add_zero] at ih ⊢
      simp [hi, ih]
    · have hu : up L i n = L n := up_other _ h
      have : (i < n + 1) = (i < n) := by apply propext; omega
      simp only [this, hu]
      omega
def lis (listed : Array Bool) : Nat → Bool := fun i => listed.getD i false
theorem lis_set {listed : Array Bool} {i : Nat} (hi : i < listed.size) : lis (listed.setIfInBounds i true) = up (lis listed) i := by
  funext j
  by_cases h : j = i
  · subst h; simp [lis, hi, up]
  · rw [up_other _ h]
    simp [lis, Array.getElem?_setIfInBounds_ne (Ne.symm h)]
section
variable {P : Program} {ops : Array Oper} {Q : Exit → Act → World → Prop} {md : Region.Mode}
theorem wpAny_inv (hback : ∀ (i : Nat) (o : Oper), ops[i]? = some o → ∀ e ∈ o.after, Region.binds md e = true → e.on < i) (I : (Nat → Bool) → Act → World → Prop)
    (hstep : ∀ (L : Nat → Bool) (a : Act) (w : World) (i : Nat) (o : Oper), I L a w → ops[i]? = some o → L i = false → (∀ e ∈ o.after, Region.binds md e = true → L e.on = true) → (Region.wanted o (yielded ops a.tmps) = true ∧ o.wp P a w (fun a' w' => I (up L i) a' w') Q) ∨ (Region.wanted o (yielded ops a.tmps) = false ∧ I (up L i) (a.put o.dst undef) w))
    (hend : ∀ (L : Nat → Bool) (a : Act) (w : World), I L a w → (∀ i, i < ops.size → L i = true) → Q .normal a w) :
    ∀ fuel listed a w, listed.size = ops.size → cnt (fun i => !(lis listed) i) ops.size ≤ fuel → I (lis listed) a w → wpAny P md ops Q fuel listed a w := by
  have none_ready : ∀ listed : Array Bool, listed.size = ops.size → Region.ready md ops listed = [] → ∀ i, i < ops.size → lis listed i = true := by
    intro listed hsz hr i
    induction i using Nat.strongRecOn with
    | ind i ih =>
      intro hi
      cases hl : lis listed i with
      | true => rfl
      | false =>
        exfalso
        have hm : i ∈ Region.ready md ops listed := by
          rw [mem_ready]
          refine ⟨?_, ops[i], by simp [hi], fun e he hb => ?_⟩
          · have hlt : i < listed.size := by omega
            simp only [lis] at hl
            simpa [hlt] using hl
          · have hlt := hback i ops[i] (by simp [hi]) e he hb
            exact ih e.on hlt (by omega)
        rw [hr] at hm
        cases hm
  intro fuel
  induction fuel with
  | zero =>
    intro listed a w hsz hc hI
    have hall : ∀ i, i < ops.size → lis listed i = true := fun i hi => by
      have := cnt_zero (g := fun i => !(lis listed) i) (n := ops.size) (by omega) i hi
      simpa using this
    refine ⟨?_, hend _ a w hI hall⟩
    cases hr : Region.ready md ops listed with
    | nil => rfl
    | cons x xs =>
      exfalso
      have hx : x ∈ Region.ready md ops listed := by rw [hr]; simp
      rw [mem_ready] at hx
      obtain ⟨h0, o, ho, _⟩ := hx
      have hlt : x < ops.size := (Array.getElem?_eq_some_iff.1 ho).1
      have := hall x hlt
      have hlt' : x < listed.size := by omega
      simp [lis, hlt'] at this
      simp [hlt'] at h0
      rw [h0] at this
      cases this
  | succ fuel ih =>
    intro listed a w hsz hc hI
    refine ⟨fun hr => hend _ a w hI (none_ready listed hsz hr), fun i hi => ?_⟩
    rw [mem_ready] at hi
    obtain ⟨h0, o, ho, hdep⟩ := hi
    have hlt : i < ops.size := (Array.getElem?_eq_some_iff.1 ho).1
    have hlt' : i < listed.size := by omega
    have hf : lis listed i = false := by simp [hlt'] at h0; simp [lis, hlt', h0]
    have hs := hstep (lis listed) a w i o hI ho hf hdep
    have go : ∀ a' w', I (up (lis listed) i) a' w' → wpAny P md ops Q fuel (listed.setIfInBounds i true) a' w' := fun a' w' h => by
      refine ih _ a' w' (by simpa using hsz) ?_ (by rw [lis_set hlt']; exact h)
      rw [lis_set hlt']
      have := cnt_up hf ops.size
      rw [if_pos hlt] at this
      omega
    unfold wpOp
    simp only [ho]
    rcases hs with ⟨hw, hs⟩ | ⟨hw, hs⟩
    · rw [if_pos hw]
      left
      exact Oper.wp_mono go hs
    · rw [hw]
      simp only [Bool.false_eq_true, if_false]
      exact go _ _ hs
theorem region_inv {id : Nat} {a : Act} {w : World} (hm : P.follows .mixedOrders = true) (hback : ∀ (i : Nat) (o : Oper), ops[i]? = some o → ∀ e ∈ o.after, Region.binds .any e = true → e.on < i) (I : (Nat → Bool) → Act → World → Prop)
    (hstep : ∀ (L : Nat → Bool) (a : Act) (w : World) (i : Nat) (o : Oper), I L a w → ops[i]? = some o → L i = false → (∀ e ∈ o.after, Region.binds .any e = true → L e.on = true) → (Region.wanted o (yielded ops a.tmps) = true ∧ o.wp P a w (fun a' w' => I (up L i) a' w') Q) ∨ (Region.wanted o (yielded ops a.tmps) = false ∧ I (up L i) (a.put o.dst undef) w))
    (hend : ∀ (L : Nat → Bool) (a : Act) (w : World), I L a w → (∀ i, i < ops.size → L i = true) → Q .normal a w)
    (h0 : I (fun _ => false) a { w with drawn := w.drawn + 1 }) : (Code.region id ops true).wp P Q a w := by
  refine wp_region_any hm (wpAny_inv hback I hstep hend _ _ a _ (by simp) ?_ ?_)
  · exact cnt_le _ _
  · have : lis (Array.replicate ops.size false) = fun _ => false := by
      funext i
      simp [lis, Array.getElem?_replicate]
      split <;> rfl
    rw [this]
    exact h0
end
theorem put_eval {a : Act} {d : Nat} {v : Value} (h : d < a.tmps.size) : (a.put (some d) v).eval (.tmp d) = v := by
  simp [Act.put, Act.eval, h]
theorem put_other {a : Act} {d k : Nat} {v : Value} (h : k ≠ d) : (a.put (some d) v).eval (.tmp k) = a.eval (.tmp k) :=
  Act.eval_put (fun d' hd he => by cases hd; cases he; exact h rfl)
theorem put_size {a : Act} {d : Option Nat} {v : Value} : (a.put d v).tmps.size = a.tmps.size := by
  cases d <;> simp [Act.put]
theorem put_defs {a : Act} {d : Option Nat} {v : Value} : (a.put d v).defers = a.defers := by
  cases d <;> rfl
def look (l : List (Nat × Nat)) (i : Nat) : Option Nat := (l.find? (fun p => p.1 == i)).map (·.2)
theorem look_mem {l : List (Nat × Nat)} {i d : Nat} (h : look l i = some d) : (i, d) ∈ l := by
  unfold look at h
  obtain ⟨p, hp, hd⟩ := Option.map_eq_some_iff.1 h
  have h1 := List.find?_some hp
  have h2 := List.mem_of_find?_eq_some hp
  simp at h1
  subst h1; subst hd
  exact h2
theorem notD {b : Bool} (h : b = false) : ¬ b = true := by simp [h]
def pv (ks : List (Nat × Nat)) (vals : Nat → Value) (i : Nat) : Option (Nat × Value) := (look ks i).map (fun d => (d, vals i))
def D (ks : List (Nat × Nat)) (k : Nat) : Prop := (ks.any (fun p => p.2 == k)) = true
structure In (ks : List (Nat × Nat)) (vals : Nat → Value) (WI : World → Prop) (a0 : Act) (L : Nat → Bool) (a : Act) (w : World) : Prop where
  sz : a.tmps.size = a0.tmps.size
  df : a.defers = a0.defers
  fix : ∀ k, ¬ D ks k → a.eval (.tmp k) = a0.eval (.tmp k)
  pure : ∀ i d v, pv ks vals i = some (d, v) → L i = true → a.eval (.tmp d) = v
  world : WI w
abbrev Deps (o : Oper) (L : Nat → Bool) : Prop := ∀ e ∈ o.after, Region.binds .any e = true → L e.on = true
inductive Does (P : Program) (Q : Exit → Act → World → Prop) (ops : Array Oper) (ks : List (Nat × Nat)) (vals : Nat → Value) (WI : World → Prop) (a0 : Act) (i : Nat) (o : Oper) : Prop where
  | run (dst : o.dst = look ks i) (wn : ∀ L a w, In ks vals WI a0 L a w → Deps o L → Region.wanted o (yielded ops a.tmps) = true) (wp : ∀ L a w (K : Act → World → Prop), In ks vals WI a0 L a w → Deps o L → (∀ w' v, (∀ d, o.dst = some d → v = vals i) → WI w' → K (a.put o.dst v) w') → o.wp P a w K Q)
  | skip (dst : o.dst = look ks i) (wn : ∀ L a w, In ks vals WI a0 L a w → Deps o L → Region.wanted o (yielded ops a.tmps) = false) (hv : vals i = undef)
theorem region {P : Program} {id : Nat} {ops : Array Oper} {Q : Exit → Act → World → Prop} {ks : List (Nat × Nat)} {vals : Nat → Value} {WI : World → Prop} {w0 : World} {a0 : Act}
    (hm : P.follows .mixedOrders = true) (hback : ∀ (i : Nat) (o : Oper), ops[i]? = some o → ∀ e ∈ o.after, Region.binds .any e = true → e.on < i)
    (hgood : (ks.all fun p => ks.all fun q => p.1 == q.1 || p.2 != q.2) = true) (hD : ∀ k, D ks k → k < a0.tmps.size) (hW0 : WI { w0 with drawn := w0.drawn + 1 })
    (does : ∀ (i : Nat) (o : Oper), ops[i]? = some o → Does P Q ops ks vals WI a0 i o)
    (fin : ∀ L a w, In ks vals WI a0 L a w → (∀ i, i < ops.size → L i = true) → Q .normal a w) :
    (Code.region id ops true).wp P Q a0 w0 := by
  simp only [List.all_eq_true, bne_iff_ne, Bool.or_eq_true, beq_iff_eq] at hgood
  have pvm : ∀ {i d v}, pv ks vals i = some (d, v) → (i, d) ∈ ks := fun {i d v} h => by
    obtain ⟨d', h1, h2⟩ := Option.map_eq_some_iff.1 h
    cases h2; exact look_mem h1
  refine region_inv hm hback (fun L a w => In ks vals WI a0 L a w) ?step (fun L a w h hall => fin L a w h hall) ?start
  case start => exact ⟨rfl, rfl, fun _ _ => rfl, fun _ _ _ _ h => (by cases h), hW0⟩
  case step =>
    rintro L a w i o h ho hL hd
    have on : ∀ w' v, o.dst = look ks i → (∀ d, o.dst = some d → v = vals i) → WI w' → In ks vals WI a0 (up L i) (a.put o.dst v) w' := fun w' v hdst hv hW => by
      cases hlk : look ks i with
      | none =>
        rw [hdst, hlk]
        refine ⟨h.sz, h.df, h.fix, fun j d' v' hj hLj => h.pure j d' v' hj ?_, hW⟩
        have hji : j ≠ i := fun e => by
          subst e
          obtain ⟨d'', h1, _⟩ := Option.map_eq_some_iff.1 hj
          rw [hlk] at h1; cases h1
        rwa [up_other _ hji] at hLj
      | some d =>
        have hv' := hv d (hdst.trans hlk)
        subst hv'
        rw [hdst, hlk]
        have hm' : (i, d) ∈ ks := look_mem hlk
        have hDd : D ks d := by simp only [D, List.any_eq_true, beq_iff_eq]; exact ⟨_, hm', rfl⟩
        have e : ∀ k : Nat, k ≠ d → (a.put (some d) (vals i)).eval (.tmp k) = a.eval (.tmp k) := fun k hk => put_other hk
        refine ⟨by rw [put_size]; exact h.sz, by rw [put_defs]; exact h.df, fun k hk => ?_, fun j d' v' hj hLj => ?_, hW⟩
        · rw [e k (fun he => hk (he ▸ hDd))]; exact h.fix k hk
        · by_cases hij : j = i
          · subst hij
            rw [pv, hlk] at hj
            cases hj
            exact put_eval (by rw [h.sz]; exact hD _ hDd)
          · rw [up_other _ hij] at hLj
            have : d' ≠ d := by
              rcases hgood _ hm' _ (pvm hj) with e1 | e1
              · exact absurd e1.symm hij
              · exact Ne.symm e1
            rw [e d' this]
            exact h.pure j d' v' hj hLj
    rcases does i o ho with ⟨hdst, hwn, hwp⟩ | ⟨hdst, hwn, hv⟩
    · exact .inl ⟨hwn L a w h hd, hwp L a w _ h hd (fun w' v hv hW => on w' v hdst hv hW)⟩
    · exact .inr ⟨hwn L a w h hd, on w undef hdst (fun _ _ => hv.symm) h.world⟩
section
variable {P : Program} {Q : Exit → Act → World → Prop} {ops : Array Oper} {ks : List (Nat × Nat)} {vals : Nat → Value} {WI : World → Prop} {a0 : Act} {i : Nat} {o : Oper}
theorem wp_value {a : Act} {w : World} {K : Act → World → Prop} {v : Value} {w' : World} (h : (execOp a.eval o).run P w = .ok (.value v) w') (hk : K (a.put o.dst v) w') : o.wp P a w K Q := by
  unfold Oper.wp; rw [h]; exact hk
theorem wp_call {a : Act} {w : World} {K : Act → World → Prop} {f : FuncId} {args : Array Value} (hrun : (execOp a.eval o).run P w = .ok (.enter f args) w) (hc : Calls P f args w fun e w' => ∃ v, e = .returned v ∧ K (a.put o.dst v) w') : o.wp P a w K Q := by
  unfold Oper.wp
  rw [hrun, Oper.upon_enter]
  exact hc.mono (fun e w' ⟨v, he, hk⟩ => by subst he; exact hk)
theorem Does.read (hd : o.dst = look ks i) (wn : ∀ L a w, In ks vals WI a0 L a w → Deps o L → Region.wanted o (yielded ops a.tmps) = true) (h : ∀ L a w, In ks vals WI a0 L a w → Deps o L → (execOp a.eval o).run P w = .ok (.value (vals i)) w) : Does P Q ops ks vals WI a0 i o :=
  .run hd wn fun L a w K hI hdep hk => wp_value (h L a w hI hdep) (hk w _ (fun _ _ => rfl) hI.world)
theorem Does.make (hd : o.dst = look ks i) (wn : ∀ L a w, In ks vals WI a0 L a w → Deps o L → Region.wanted o (yielded ops a.tmps) = true) (h : ∀ L a w, In ks vals WI a0 L a w → Deps o L → ∃ w', (execOp a.eval o).run P w = .ok (.value (vals i)) w' ∧ WI w') : Does P Q ops ks vals WI a0 i o :=
  .run hd wn fun L a w K hI hdep hk => by
    obtain ⟨w', h1, h2⟩ := h L a w hI hdep
    exact wp_value h1 (hk w' _ (fun _ _ => rfl) h2)
theorem Does.call {f : FuncId} {args : Array Value} (hd : o.dst = look ks i) (wn : ∀ L a w, In ks vals WI a0 L a w → Deps o L → Region.wanted o (yielded ops a.tmps) = true) (h : ∀ L a w, In ks vals WI a0 L a w → Deps o L → (execOp a.eval o).run P w = .ok (.enter f args) w)
    (hc : ∀ w, WI w → Calls P f args w fun e w' => e = .returned (vals i) ∧ WI w') : Does P Q ops ks vals WI a0 i o :=
  .run hd wn fun L a w K hI hdep hk => wp_call (h L a w hI hdep) ((hc w hI.world).mono (by rintro e w' ⟨rfl, hw⟩; exact ⟨_, rfl, hk _ _ (fun _ _ => rfl) hw⟩))
end
section
variable {ev : Operand → Value} {o : Oper} {w : World}
theorem ex_move {x : Operand} {v : Value} (ho : o.op = .move x) (hx : ev x = v) : (execOp ev o).run Try.prog w = .ok (.value v) w := by simp [execOp, ho, hx]
theorem ex_assign {x : Operand} {v : Value} (ho : o.op = .assign x) (hx : ev x = v) : (execOp ev o).run Try.prog w = .ok (.value v) w := by simp [execOp, ho, hx]
theorem ex_extract {x : Operand} {vs : Array Value} {i : Nat} {v : Value} (ho : o.op = .extract x i) (hx : ev x = .tuple vs) (hv : vs[i]? = some v) : (execOp ev o).run Try.prog w = .ok (.value v) w := by
  simp [execOp, ho, hx, go_sem, hv]
theorem ex_load {x : Operand} {ty : TypeId} {a : Addr} {v : Value} (ho : o.op = .load ty x) (hx : ev x = .pointer (some a)) (hagg : (isAgg ty).run Try.prog w = .ok false w) (hc : w.cell? a = some v) : (execOp ev o).run Try.prog w = .ok (.value v) w := by
  simp [execOp, ho, hx, Instr.loadAt, Instr.sureAddr, loadVar, Sem.run_bind, hagg, go_sem, hc]
theorem ex_field {x : Operand} {b k q : Nat} {ty : TypeId} (ho : o.op = .fieldAddr ty x k) (hx : ev x = .pointer (some ⟨b, 0, none⟩)) (hf : (Instr.fieldAt ty (.pointer (some ⟨b, 0, none⟩)) k).run Try.prog w = .ok (.pointer (some ⟨b, q, none⟩)) w) : (execOp ev o).run Try.prog w = .ok (.value (.pointer (some ⟨b, q, none⟩))) w := by
  simp [execOp, ho, hx, hf]
theorem call1 {f : FuncId} {x0 : Operand} {ts : Array TypeId} {v0 : Value} (ho : o.op = Op.call { callee := Callee.value (Operand.func f), args := #[x0], argTypes := ts }) (h0 : ev x0 = v0) (hf : ev (Operand.func f) = .func (.func f) #[] #[]) (hcf : (callFunc f #[v0]).run Try.prog w = .ok (.enter f #[v0]) w) :
    (execOp ev o).run Try.prog w = .ok (.enter f #[v0]) w := by
  simp [execOp, ho, h0, hf, resolve, invoke, go_sem, hcf]
theorem call2 {f : FuncId} {x0 x1 : Operand} {ts : Array TypeId} {v0 v1 : Value} (ho : o.op = Op.call { callee := Callee.value (Operand.func f), args := #[x0, x1], argTypes := ts }) (h0 : ev x0 = v0) (h1 : ev x1 = v1) (hf : ev (Operand.func f) = .func (.func f) #[] #[]) (hcf : (callFunc f #[v0, v1]).run Try.prog w = .ok (.enter f #[v0, v1]) w) :
    (execOp ev o).run Try.prog w = .ok (.enter f #[v0, v1]) w := by
  simp [execOp, ho, h0, h1, hf, resolve, invoke, go_sem, hcf]
theorem call3 {f : FuncId} {x0 x1 x2 : Operand} {ts : Array TypeId} {v0 v1 v2 : Value} (ho : o.op = Op.call { callee := Callee.value (Operand.func f), args := #[x0, x1, x2], argTypes := ts }) (h0 : ev x0 = v0) (h1 : ev x1 = v1) (h2 : ev x2 = v2) (hf : ev (Operand.func f) = .func (.func f) #[] #[]) (hcf : (callFunc f #[v0, v1, v2]).run Try.prog w = .ok (.enter f #[v0, v1, v2]) w) :
    (execOp ev o).run Try.prog w = .ok (.enter f #[v0, v1, v2]) w := by
  simp [execOp, ho, h0, h1, h2, hf, resolve, invoke, go_sem, hcf]
theorem call4 {f : FuncId} {x0 x1 x2 x3 : Operand} {ts : Array TypeId} {v0 v1 v2 v3 : Value} (ho : o.op = Op.call { callee := Callee.value (Operand.func f), args := #[x0, x1, x2, x3], argTypes := ts }) (h0 : ev x0 = v0) (h1 : ev x1 = v1) (h2 : ev x2 = v2) (h3 : ev x3 = v3) (hf : ev (Operand.func f) = .func (.func f) #[] #[]) (hcf : (callFunc f #[v0, v1, v2, v3]).run Try.prog w = .ok (.enter f #[v0, v1, v2, v3]) w) :
    (execOp ev o).run Try.prog w = .ok (.enter f #[v0, v1, v2, v3]) w := by
  simp [execOp, ho, h0, h1, h2, h3, hf, resolve, invoke, go_sem, hcf]
theorem isRow_of {ty : TypeId} (h : (Try.prog.underlying ty).map (fun d => d.isRow) = some true) : ∃ d, Try.prog.underlying ty = some d ∧ d.isRow = true := Option.map_eq_some_iff.1 h
theorem ex_load_row {x : Operand} {ty : TypeId} {b off : Nat} {cs : List Value} (ho : o.op = .load ty x) (hx : ev x = .pointer (some ⟨b, off, none⟩)) (hc : w.rangeAt b off cs) (hu : (Try.prog.underlying ty).map (fun d => d.isRow) = some true) (hi : (Try.prog.info? ty).map (·.size) = some cs.length) :
    (execOp ev o).run Try.prog w = .ok (.value (.agg cs.toArray)) w := by
  obtain ⟨d, h1, h2⟩ := isRow_of hu
  simp [execOp, ho, hx, run_loadAt_mid w b off ty cs d hc h1 h2 hi]
end
end Lt
end Go.Proofs.Ytnodkeoikamonaa
/-
  Shape: Root and Slot of the package, for every shape and numbers.
-/
namespace Go.Proofs.Ytnodkeoikamonaa
open Go.RowKit
set_option linter.unusedVariables false
set_option linter.unusedSimpArgs false
set_option linter.unnecessarySimpa false
set_option maxRecDepth 20000
namespace Shape
end Shape
end Go.Proofs.Ytnodkeoikamonaa
