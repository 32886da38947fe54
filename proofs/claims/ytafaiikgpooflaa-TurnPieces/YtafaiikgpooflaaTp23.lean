/-
  Lemmas: WkW.
-/
import Derived.Test.YtafaiikgpooflaaTp22
import Derived.Deep.CutBlock
import Derived.Deep.CutRange
/-
  TurnPieces: the law's walk
-/
namespace Go.Proofs.Ytafaiikgpooflaa
open Go.RowKit
set_option linter.unusedVariables false
set_option linter.unusedSimpArgs false
set_option linter.unnecessarySimpa false
set_option maxRecDepth 20000
namespace WkW
open WkK (kWk)
open WkM WkL WkX

/-- The first Play's answer, with its trace in a variable. -/
def C7 (w3 : World) (P : Par) (f : Nat → Int) (most : Int) (v13 v14 v15 : Value) (wx : World) : Prop :=
  ∃ bt sa k sc wa n wc en aa m ac er, v13 = .pointer (some ⟨bt, 0, none⟩) ∧ v14 = .slice aa m ac ∧ v15 = .int .i64 er ∧ w3.heap.size ≤ bt ∧ wx.rowIs bt 29 3 (lrow [.slice sa k sc, .slice wa n wc, .bool en]) ∧ Below w3.heap.size w3 wx ∧
    (er = 0 → Fine P most ∧ AllOk kWk P ∧ Told kWk P (runSt P (st0 kWk P f) most.toNat) (w3.heap.size + 1) (.tuple #[.agg #[.slice sa k sc, .slice wa n wc, .bool en], .slice aa m ac, .int .i64 er]) wx)

section
variable {w5 wq : World} {P : Par} {f : Nat → Int} {most : Int} {sa wa aa : Option Addr} {k sc n wc m ac : Nat} {en : Bool} {er : Int}
theorem c7_a (BQ : Below ((w5.alloc (.cells #[.slice none 0 0, .slice none 0 0, .bool false] 29)).drew).heap.size ((w5.alloc (.cells #[.slice none 0 0, .slice none 0 0, .bool false] 29)).drew) wq)
    (HT : er = 0 → Fine P most ∧ AllOk kWk P ∧ Told kWk P (runSt P (st0 kWk P f) most.toNat) (w5.heap.size + 1) (.tuple #[.agg #[.slice sa k sc, .slice wa n wc, .bool en], .slice aa m ac, .int .i64 er]) wq) :
    C7 w5 P f most (.pointer (some ⟨w5.heap.size, 0, none⟩)) (.slice aa m ac) (.int .i64 er) (((wq.setCell ⟨w5.heap.size, 0, none⟩ (.slice sa k sc)).setCell ⟨w5.heap.size, 1, none⟩ (.slice wa n wc)).setCell ⟨w5.heap.size, 2, none⟩ (.bool en)) := by
  have R0 := (rowL_alloc w5 [.slice none 0 0, .slice none 0 0, .bool false] 29 rfl).drew
  have R1 : wq.rowIs w5.heap.size 29 3 (lrow [.slice none 0 0, .slice none 0 0, .bool false]) := R0.of_block (BQ.block w5.heap.size (by simp))
  have b0 : Below w5.heap.size w5 wq := (((Below.refl _ w5).alloc (Nat.le_refl _) _).drew).trans (BQ.mono (by simp))
  have tt := touch3 wq w5.heap.size (.slice sa k sc) (.slice wa n wc) (.bool en)
  refine ⟨w5.heap.size, sa, k, sc, wa, n, wc, en, aa, m, ac, er, rfl, rfl, rfl, Nat.le_refl _, ?_, ((b0.setCell (Nat.le_refl _) _).setCell (Nat.le_refl _) _).setCell (Nat.le_refl _) _, fun h => ?_⟩
  · refine (((R1.set 0 _).set 1 _).set 2 _).congr (fun i hi => ?_)
    have : i = 0 ∨ i = 1 ∨ i = 2 := by omega
    rcases this with rfl | rfl | rfl <;> rfl
  · obtain ⟨h1, h2, h3⟩ := HT h
    exact ⟨h1, h2, told_keep h3 tt (fun q e => by omega)⟩
theorem c7_b (BQ : Below w5.drew.heap.size w5.drew wq)
    (HT : er = 0 → Fine P most ∧ AllOk kWk P ∧ Told kWk P (runSt P (st0 kWk P f) most.toNat) (w5.heap.size + 1) (.tuple #[.agg #[.slice sa k sc, .slice wa n wc, .bool en], .slice aa m ac, .int .i64 er]) wq) :
    C7 w5 P f most (.pointer (some ⟨wq.heap.size, 0, none⟩)) (.slice aa m ac) (.int .i64 er) (wq.alloc (.cells #[.slice sa k sc, .slice wa n wc, .bool en] 29)) := by
  have b0 : Below w5.heap.size w5 wq := ⟨BQ.os, BQ.tape, BQ.output, BQ.size, BQ.block⟩
  have sz := b0.size
  refine ⟨wq.heap.size, sa, k, sc, wa, n, wc, en, aa, m, ac, er, rfl, rfl, rfl, sz, rowL_alloc wq [.slice sa k sc, .slice wa n wc, .bool en] _ rfl, b0.alloc sz _, fun h => ?_⟩
  obtain ⟨h1, h2, h3⟩ := HT h
  exact ⟨h1, h2, told_keep h3 ((Touch.refl wq (fun _ => False)).alloc _) (fun q e => e.elim)⟩
end

/-- The third Play's answer, with its trace in a variable. -/
def C31 (WL : World) (P : Par) (st1 : St kWk) (k1 : Nat) (en1 : Bool) (v23 v24 v19 : Value) (wx : World) : Prop :=
  ∃ b3 sa3 sc3 g3 ba3 A3, v23 = .pointer (some ⟨b3, 0, none⟩) ∧ v24 = .slice (some ⟨ba3, 0, none⟩) P.nh P.nh ∧ v19 = .int .i64 0 ∧ Below WL.heap.size WL wx ∧ WL.heap.size + 1 ≤ g3 ∧ WL.heap.size + 1 ≤ ba3 ∧ g3 ≠ ba3 ∧ g3 < b3 ∧ ba3 < b3 ∧ wx.rowIs b3 29 3 (lrow [.slice sa3 k1 sc3, .slice (some ⟨g3, 0, none⟩) P.n P.n, .bool en1]) ∧ IsRow wx g3 P.n P.n st1.f ∧ Cv wx (WL.heap.size + 1) ba3 P.nh st1.done 0 A3 ∧ SeesS wx wx.heap.size sa3 k1 st1.s ∧ SeesA wx wx.heap.size (some ⟨ba3, 0, none⟩) P.nh st1.done st1.ans
/-- What the walk meets behind the third Play. -/
def Q31 (WL : World) (P : Par) (st1 : St kWk) (k1 : Nat) (en1 : Bool) (e : Ending) (w10 : World) : Prop :=
  ∃ sa3 sc3 g3 ba3, e = .returned (.tuple #[.agg #[.slice sa3 k1 sc3, .slice (some ⟨g3, 0, none⟩) P.n P.n, .bool en1], .slice (some ⟨ba3, 0, none⟩) P.nh P.nh, .int .i64 0]) ∧ C31 WL P st1 k1 en1 (.pointer (some ⟨w10.heap.size, 0, none⟩)) (.slice (some ⟨ba3, 0, none⟩) P.nh P.nh) (.int .i64 0) (w10.alloc (.cells #[.slice sa3 k1 sc3, .slice (some ⟨g3, 0, none⟩) P.n P.n, .bool en1] 29))
theorem q31_of {WL w10 : World} {P : Par} {st1 : St kWk} {k1 c : Nat} {en1 : Bool} {e : Ending} (hk : st1.k = k1) (he : decide (cnt (st1.going P) P.nh = 0) = en1) (h : Below WL.heap.size WL w10 ∧ ∃ v, e = .returned v ∧ Told kWk (WkN.cutP P c) st1 (WL.heap.size + 1) v w10) : Q31 WL P st1 k1 en1 e w10 := by
  obtain ⟨hb, v, rfl, T3⟩ := h
  obtain ⟨sa3, sc3, g3, ba3, A3, rfl, hg3, hba3, hne3, R3, C3, -, SS3, SA3⟩ := told_cut T3
  rw [hk, he]
  rw [hk] at SS3
  have b1 := (Below.refl w10.heap.size w10).alloc (Nat.le_refl _) (.cells #[.slice sa3 k1 sc3, .slice (some ⟨g3, 0, none⟩) P.n P.n, .bool en1] 29)
  exact ⟨sa3, sc3, g3, ba3, rfl, w10.heap.size, sa3, sc3, g3, ba3, A3, rfl, rfl, rfl, hb.alloc hb.size _, hg3, hba3, hne3, R3.lt, C3.row.lt, rowL_alloc w10 [.slice sa3 k1 sc3, .slice (some ⟨g3, 0, none⟩) P.n P.n, .bool en1] _ rfl, R3.alloc _, cv_below C3 b1, (SS3.below b1 (Nat.le_refl _)).mono (by simp), (SA3.below b1 (Nat.le_refl _)).mono (by simp)⟩

set_option maxHeartbeats 32000000 in
theorem pieces_walk {w : World} {ao aoh aos : Option Addr} {cap caph caps : Nat} {P : Par} {f : Nat → Int} {most less : Int} (S : Sees w w.heap.size ao P.n f) (hnil : ao = none → P.n = 0 ∧ cap = 0) (hf : ∀ i, i < P.n → 0 ≤ f i ∧ f i ≤ 18446744073709551615) (SH : SeesH w w.heap.size aoh P.nh P.jn P.jb) (hn63 : P.nh ≤ 9223372036854775807) (SI : SeesI w w.heap.size aos P.ns P.sched) (hnis : aos = none → P.ns = 0 ∧ caps = 0) (hcs : P.ns ≤ caps) (hjw : ∀ h, h < P.nh → ∀ j, j < P.jn h → (P.jb h j).wf) :
    Calls Try.prog 3 #[.slice ao P.n cap, .slice aoh P.nh caph, .slice aos P.ns caps, .int .i64 most, .int .i64 less] w fun e w' => e = .returned (.bool true) ∧ Below w.heap.size w w' := by
  have HS := hide S
  have HH := hide SH
  have HI := hide SI
  have HNIL := hide hnil
  have HNIS := hide hnis
  have HF := hide hf
  have HJW := hide hjw
  have AW := hide (WkE.awake_any w)
  clear S SH SI hnil hnis hf hjw
  go_enter Try.func3, Try.ntmps3
  go_upto_region 3 with (go_at_call 5; refine AW.out.mono ?_; rintro e w1 ⟨rfl, hb⟩; have B1 := hide hb; clear hb)
  clear AW
  by_cases q1 : 4096 < P.n
  · have q1' : (4096 : Int) < (P.n : Int) := by omega
    go_wp2_with fail
    go_ret
    exact ⟨rfl, B1.out⟩
  have q1' : ¬ (4096 : Int) < (P.n : Int) := by omega
  by_cases q2 : 65536 < P.ns
  · have q2' : (65536 : Int) < (P.ns : Int) := by omega
    go_wp2_with fail
    go_ret
    exact ⟨rfl, B1.out⟩
  have q2' : ¬ (65536 : Int) < (P.ns : Int) := by omega
  by_cases q3 : 8 < P.nh
  · have q3' : (8 : Int) < (P.nh : Int) := by omega
    go_wp2_with fail
    go_ret
    exact ⟨rfl, B1.out⟩
  have q3' : ¬ (8 : Int) < (P.nh : Int) := by omega
  obtain ⟨iU, hiU, hzU, hsU, hyU⟩ := info46e
  obtain ⟨iI, hiI, hzI, hsI, hyI⟩ := info3e
  have s1 := B1.out.size
  have S1 := hide ((HS.out.below B1.out (Nat.le_refl _)).mono s1)
  go_upto_region 6 with (first
    | (at_builtin; refine wpList_append_opt rfl (.tmp 48) (.tmp 49) 22 rfl w1.heap.size 26 iU (.int .u64 0) 1 8 Try.underlying22 hiU hzU hsU hyU rfl (by decide) (.slice (some ⟨w1.heap.size, 0, none⟩) 0 0) 0 [] rfl (owns_nil0 (Nat.le_refl _)) ao P.n cap (wordCells P.n f) rfl HNIL.out (by simp [wordCells]) (Sees.news (S1.out.alloc _)) (wordCells_one _ _) (by unfold maxLen; omega) (by omega) (by simp) ?_; intro v2 w2 hown2 hgr2 _; rw [Nat.zero_add, List.nil_append] at hown2; obtain ⟨l2, p2, rfl⟩ : ∃ l p, v2 = .slice l P.n p := (by obtain ⟨_, ⟨rfl, h0⟩ | ⟨g, c, _, rfl, _⟩⟩ := hown2; exact ⟨none, 0, by rw [h0]⟩; exact ⟨_, _, rfl⟩); have O2 := hide hown2; have B2 := hide (show Below w1.heap.size w1 w2 from below_new (Nat.le_refl _) hgr2 (fun x e => by cases e; exact Nat.le_refl _)); have s2 := B2.out.size; clear hown2 hgr2)
    | (at_builtin; refine wpList_append_opt rfl (.tmp 50) (.tmp 51) 22 rfl w1.heap.size 26 iU (.int .u64 0) 1 8 Try.underlying22 hiU hzU hsU hyU rfl (by decide) (.slice l2 P.n p2) P.n (wordCells P.n f) rfl (O2.out.alloc _) (some ⟨w2.heap.size, 0, none⟩) 1 1 [.int .u64 77] rfl (fun h => by cases h) rfl (fun ad had q u hu => by obtain ⟨rfl, rfl⟩ := one_val hu; cases had; rw [Go.WideShapes.add_plain]; simp) (by simp [Value.oneCell']) (by unfold maxLen; omega) (by omega) (by simp; omega) ?_; intro v3 w3 hown3 hgr3 _; rw [mkW_cells] at hown3; obtain ⟨gw, cw, rfl, hgw, hgw', hcw, hcw'⟩ := own_some hown3 (by omega); have O3 := hide (IsRow.of_owns hown3 (fun i hi => by by_cases e : i < P.n; rw [mk_lt e]; exact HF.out i e; obtain rfl : i = P.n := (by omega); rw [mk_at]; decide)); have B3 := hide (show Below w1.heap.size w1 w3 from B2.out.trans (below_new s2 hgr3 (fun x e => (O2.out.lt x e).1))); have s3 := B3.out.size; clear hown3 hgr3))
  have B03 := hide (show Below w.heap.size w w3 from B1.out.trans (B3.out.mono s1))
  have SI3 := hide (upI (HI.out.below B03.out (Nat.le_refl _)) B03.out.size)
  go_upto_region 7 with (first
    | (at_builtin; refine wpList_append_opt rfl (.tmp 53) (.tmp 54) 24 rfl w3.heap.size 3 iI (.int .i64 0) 1 8 Try.underlying24 hiI hzI hsI hyI rfl (by decide) (.slice (some ⟨w3.heap.size, 0, none⟩) 0 0) 0 [] rfl (owns_nil0 (Nat.le_refl _)) aos P.ns caps (numCells P.ns P.sched) rfl HNIS.out (by simp [numCells]) (newsI (SI3.out.below ((Below.refl _ w3).alloc (Nat.le_refl _) _) (Nat.le_refl _))) (numCells_one _ _) (by unfold maxLen; omega) (by omega) (by simp) ?_; intro v4 w4 hown4 hgr4 _; rw [Nat.zero_add, List.nil_append] at hown4; obtain ⟨l4, p4, rfl⟩ : ∃ l p, v4 = .slice l P.ns p := (by obtain ⟨_, ⟨rfl, h0⟩ | ⟨g, c, _, rfl, _⟩⟩ := hown4; exact ⟨none, 0, by rw [h0]⟩; exact ⟨_, _, rfl⟩); have O4 := hide hown4; have B4 := hide (show Below w3.heap.size w3 w4 from below_new (Nat.le_refl _) hgr4 (fun x e => by cases e; exact Nat.le_refl _)); have s4 := B4.out.size; clear hown4 hgr4)
    | (at_builtin; refine wpList_append_opt rfl (.tmp 55) (.tmp 56) 24 rfl w3.heap.size 3 iI (.int .i64 0) 1 8 Try.underlying24 hiI hzI hsI hyI rfl (by decide) (.slice l4 P.ns p4) P.ns (numCells P.ns P.sched) rfl (O4.out.alloc _) (some ⟨w4.heap.size, 0, none⟩) 1 1 [.int .i64 77] rfl (fun h => by cases h) rfl (fun ad had q u hu => by obtain ⟨rfl, rfl⟩ := one_val hu; cases had; rw [Go.WideShapes.add_plain]; simp) (by simp [Value.oneCell']) (by unfold maxLen; omega) (by omega) (by simp; omega) ?_; intro v5 w5 hown5 hgr5 _; rw [mkI_cells] at hown5; obtain ⟨gs, cs, rfl, hgs, hgs', hcsl, hcs'⟩ := own_some hown5 (by omega); have I5 := hide (seesI_of hown5); have B5 := hide (show Below w3.heap.size w3 w5 from B4.out.trans (below_new s4 hgr5 (fun x e => (O4.out.lt x e).1))); have s5 := B5.out.size; clear hown5 hgr5))
  have B05 := hide (show Below w.heap.size w w5 from B03.out.trans (B5.out.mono (by omega)))
  have R5 := hide (O3.out.below B5.out)
  have W5 := hide (show Sees w5 w5.heap.size (some ⟨gw, 0, none⟩) P.n f from fun j hj => ⟨gw, 0, rfl, R5.out.lt, by rw [Nat.zero_add, R5.out.cell (by omega), mk_lt hj]⟩)
  have J5 := hide (show SeesI w5 w5.heap.size (some ⟨gs, 0, none⟩) P.ns P.sched from fun j hj => by
    obtain ⟨b, off, e, h1, h2⟩ := I5.out j (by omega)
    exact ⟨b, off, e, h1, by rw [h2, mk_lt hj]⟩)
  have PA := hide (fun (wc : World) (hb : Below w5.heap.size w5 wc) => OfAny.play_all (K := kWk) (mk := .func (.func 7) #[] #[]) (w := wc) (P := P) (f := f) (most := most) (cap := cw) (caph := caph) (caps := cs) ((W5.out.below hb (Nat.le_refl _)).mono hb.size) HF.out (upH ((upH (HH.out.below B05.out (Nat.le_refl _)) B05.out.size).below hb (Nat.le_refl _)) hb.size) hn63 (upI (J5.out.below hb (Nat.le_refl _)) hb.size) HJW.out WkK.isKind (fun w' _ => WkK.makes w'))
  have c1 := cutU (ao := some ⟨gw, 0, none⟩) (n := P.n + 1) (show P.n ≤ cw by omega)
  have c2 := cutI (ao := some ⟨gs, 0, none⟩) (n := P.ns + 1) (show P.ns ≤ cs by omega)
  have e1 : (P.n : Int) ≤ (cw : Int) := by omega
  have e2 : (P.ns : Int) ≤ (cs : Int) := by omega
  go_cut [13, 14, 15] from 58 to 72 (fun v13 v14 v15 wx => C7 w5 P f most v13 v14 v15 wx)
  case first =>
    as_aux_lemma =>
      go_region_held (fun _ => True) (trivial) (first
        | (go_at_call 6; refine (PA.out _ (((Below.refl _ _).alloc (Nat.le_refl _) _).drew)).mono ?_; intro e wq hq; have BQ := hide hq.1; obtain ⟨sa, k, sc, wa, n', wcc, en, aa, m, ac, er, rfl, hT⟩ := fst_of (z := w5.heap.size + 1) hq (by simp); have HT := hide hT; have sq := BQ.out.size; simp only [World.size_alloc, World.size_drew] at sq; have z0 : wq.cell? ⟨w5.heap.size, 0, none⟩ = some (.slice none 0 0) := (BQ.out.cell (p := ⟨w5.heap.size, 0, none⟩) (by simp)).trans (by simp); have f0 : wq.frozen? ⟨w5.heap.size, 0, none⟩ = false := (BQ.out.frozen (p := ⟨w5.heap.size, 0, none⟩) (by simp)).trans (by simp); have z1 : wq.cell? ⟨w5.heap.size, 1, none⟩ = some (.slice none 0 0) := (BQ.out.cell (p := ⟨w5.heap.size, 1, none⟩) (by simp)).trans (by simp); have f1 : wq.frozen? ⟨w5.heap.size, 1, none⟩ = false := (BQ.out.frozen (p := ⟨w5.heap.size, 1, none⟩) (by simp)).trans (by simp); have z2 : wq.cell? ⟨w5.heap.size, 2, none⟩ = some (.bool false) := (BQ.out.cell (p := ⟨w5.heap.size, 2, none⟩) (by simp)).trans (by simp); have f2 : wq.frozen? ⟨w5.heap.size, 2, none⟩ = false := (BQ.out.frozen (p := ⟨w5.heap.size, 2, none⟩) (by simp)).trans (by simp); have ord := hide (Or.inl (b := False) trivial); clear hq hT)
        | (go_at_call 6; refine (PA.out _ ((Below.refl _ _).drew)).mono ?_; intro e wq hq; have BQ := hide hq.1; obtain ⟨sa, k, sc, wa, n', wcc, en, aa, m, ac, er, rfl, hT⟩ := fst_of (z := w5.heap.size + 1) hq (by simp); have HT := hide hT; have sq := BQ.out.size; simp only [World.size_alloc, World.size_drew] at sq; clear hq hT))
      all_goals go_wp2_with fail
      all_goals go_meet
      all_goals
        case rel => first | exact c7_a BQ.out HT.out | exact c7_b BQ.out HT.out
  case rest =>
    as_aux_lemma =>
      obtain ⟨bt, sa, k, sc, wa, n', wcc, en, aa, m, ac, er, rfl, rfl, rfl, hbt, RT, BX, HT⟩ := hcut
      obtain ⟨w6, hw6⟩ : ∃ w6, w6 = wc := ⟨_, rfl⟩
      subst hw6
      have HRT := hide RT
      have B6 := hide BX
      have HTT := hide HT
      have s6 := BX.size
      have R6 := hide (R5.out.below BX)
      have S6 := hide ((HS.out.below B05.out (Nat.le_refl _)).below (BX.mono (show w.heap.size ≤ w5.heap.size by omega)) (Nat.le_refl _))
      have B06 := hide (show Below w.heap.size w w6 from B05.out.trans (BX.mono (by omega)))
      have SW6 := hide (same_words (cap := cw) (cap' := cap) (show Sees w6 w6.heap.size (some ⟨gw, 0, none⟩) P.n f from fun j hj => ⟨gw, 0, rfl, R6.out.lt, by rw [Nat.zero_add, R6.out.cell (by omega), mk_lt hj]⟩) S6.out (fun _ _ => rfl) (by omega))
      have c77 : w6.cell? ⟨gw, P.n, none⟩ = some (.int .u64 77) := by rw [R6.out.cell (by omega), mk_at]
      have d77 : w6.cell? ⟨gs, P.ns, none⟩ = some (.int .i64 77) := by
        obtain ⟨b, off, e, h1, h2⟩ := I5.out P.ns (by omega)
        cases e
        rw [Nat.zero_add] at h2
        rw [BX.cell (p := ⟨gs, P.ns, none⟩) h1, h2, mk_at]
      have j1 : (P.n : Int) < (P.n : Int) + 1 := by omega
      have j2 : (P.ns : Int) < (P.ns : Int) + 1 := by omega
      clear RT BX HT
      go_upto_region 10 with (go_at_call 8; refine SW6.out.mono ?_; rintro e w7' ⟨rfl, m7, rfl⟩)
      obtain ⟨w7, hw7⟩ : ∃ w7, w6.drewN m7 = w7 := ⟨_, rfl⟩
      have T67 := hide (show Touch w6 w7 (fun _ => False) from by rw [← hw7]; exact ⟨rfl, rfl, rfl, Nat.le_refl _, fun _ _ _ => rfl⟩)
      have R7 := hide (show w7.rowIs bt 29 3 (lrow [.slice sa k sc, .slice wa n' wcc, .bool en]) from by rw [← hw7]; exact HRT.out.of_block rfl)
      have s7 := hide (show w7.heap.size = w6.heap.size by rw [← hw7]; rfl)
      have R67 := hide (show w7.heap[gw]? = w6.heap[gw]? by rw [← hw7]; rfl)
      have B07 := hide (show Below w.heap.size w w7 from by rw [← hw7]; exact below_drewN B06.out _)
      have B57 := hide (show Below w5.heap.size w5 w7 from by rw [← hw7]; exact below_drewN B6.out _)
      rw [hw7]
      clear hw7 SW6 c77 d77 j1 j2
      by_cases he : er = 0
      · as_aux_lemma =>
          subst he
          obtain ⟨hF, hA, T6⟩ := HTT.out rfl
          have T7 := told_keep T6 T67.out (fun q h => h.elim)
          obtain ⟨mN, hmN⟩ : ∃ mN : Nat, most = mN := ⟨most.toNat, by have := hF.2.2.2.1; omega⟩
          subst hmN
          have hm65 : mN ≤ 65536 := by have := hF.2.2.2.2; omega
          rw [Int.toNat_natCast] at T7
          obtain ⟨st1, hst1⟩ : ∃ st1, runSt P (st0 kWk P f) mN = st1 := ⟨_, rfl⟩
          rw [hst1] at T7
          have HT7 := hide T7
          have HD := hide (show ∀ h, h < P.nh → st1.done h ≤ 256 from by obtain ⟨_, _, _, _, _, _, _, _, _, _, _, hd, _, _⟩ := told_cv T7; exact hd)
          obtain ⟨sa', sc', wa', wc', aa', ac', ev, SS, SW, SAn⟩ := told_sees T7
          cases ev
          have HSS := hide SS
          have HSW := hide SW
          have HSA := hide SAn
          have hk1 : st1.k ≤ 65536 := by rw [← hst1]; have := (runSt_k P (st0 kWk P f) rfl mN).1; omega
          have HST1 := hide hst1
          have HFi := hide hF
          have HAo := hide hA
          clear SS SW SAn T7 T6 hF hA hst1 HTT T67
          obtain ⟨nn, hnn⟩ : ∃ nn : Nat, (if (mN : Int) < (if less < 0 then 0 else less) then (mN : Int) else (if less < 0 then 0 else less)) = (nn : Int) := ⟨(if (mN : Int) < (if less < 0 then 0 else less) then (mN : Int) else (if less < 0 then 0 else less)).toNat, by
            by_cases h1 : less < 0
            · simp only [h1, if_true]; split <;> omega
            · simp only [h1, if_false]; split <;> omega⟩
          have hnl : nn ≤ mN := by
            by_cases h1 : less < 0
            · simp only [h1, if_true] at hnn; split at hnn <;> omega
            · simp only [h1, if_false] at hnn; split at hnn <;> omega
          have FN : Fine P (nn : Int) := ⟨HFi.out.1, HFi.out.2.1, HFi.out.2.2.1, by omega, by omega⟩
          have PB := hide ((OfAny.play_all (K := kWk) (mk := .func (.func 7) #[] #[]) (w := w7) (P := P) (f := f) (most := (nn : Int)) (cap := cap) (caph := caph) (caps := caps) ((HS.out.below B07.out (Nat.le_refl _)).mono B07.out.size) HF.out (upH (HH.out.below B07.out (Nat.le_refl _)) B07.out.size) hn63 (upI (HI.out.below B07.out (Nat.le_refl _)) B07.out.size) HJW.out WkK.isKind (fun w' _ => WkK.makes w')).mono (fun e w' h => run_of h FN HAo.out))
          obtain ⟨st2, hst2⟩ : ∃ st2, runSt P (st0 kWk P f) nn = st2 := ⟨_, rfl⟩
          have HP := hide (show WkN.Pre P st2 st1 from by rw [← hst2, ← HST1.out]; exact WkN.pre_of hnl)
          have hk2 : (if st1.k < nn then (st1.k : Int) else (nn : Int)) = (st2.k : Int) := by
            have := WkN.k_min (P := P) (st := st0 kWk P f) rfl hnl
            rw [hst2, HST1.out] at this
            split <;> omega
          have hk21 : st2.k ≤ st1.k := HP.out.k
          have HST2 := hide hst2
          clear hst2
          have HK2m := hide hk2
          clear hk2
          obtain ⟨mx, hmx⟩ : ∃ mx : Int, (if less < 0 then 0 else less) = mx := ⟨_, rfl⟩
          rw [hmx] at hnn
          go_upto_region 13 with (fail)
          try simp only [hmx]
          try simp only [hnn]
          clear hnn hmx
          go_upto_region 14 with (go_at_call 6; refine PB.out.mono ?_; rintro e w8 ⟨hb, v2, rfl, T2⟩; rw [Int.toNat_natCast, HST2.out] at T2; obtain ⟨sa2, sc2, wa2, wc2, aa2, ac2, rfl, SS2, SW2, SA2⟩ := told_sees T2; have B78 := hide hb; have HSS2 := hide SS2; have HSA2 := hide SA2; clear hb T2 SS2 SW2 SA2)
          obtain ⟨en2, hen2⟩ : ∃ en2, decide (cnt (st2.going P) P.nh = 0) = en2 := ⟨_, rfl⟩
          rw [hen2]
          obtain ⟨W9, hW9⟩ : ∃ W9, w8.alloc (.cells #[.slice sa2 st2.k sc2, .slice wa2 P.n wc2, .bool en2] 29) = W9 := ⟨_, rfl⟩
          have R9 := hide (show W9.rowIs w8.heap.size 29 3 (lrow [.slice sa2 st2.k sc2, .slice wa2 P.n wc2, .bool en2]) from by rw [← hW9]; exact rowL_alloc w8 [.slice sa2 st2.k sc2, .slice wa2 P.n wc2, .bool en2] _ rfl)
          have B89 := hide (show Below w8.heap.size w8 W9 from by rw [← hW9]; exact (Below.refl _ w8).alloc (Nat.le_refl _) _)
          have B79 := hide (B78.out.trans (B89.out.mono B78.out.size))
          have B09 := hide (show Below w.heap.size w W9 from B07.out.trans (B79.out.mono B07.out.size))
          have RT9 := hide (R7.out.of_block (B79.out.block bt R7.out.lt))
          try rw [hW9]
          clear hW9 hen2 PB
          obtain ⟨b2, hb2⟩ : ∃ b2, w8.heap.size = b2 := ⟨_, rfl⟩
          rw [hb2] at R9
          try rw [hb2]
          clear hb2
          have hk2 := HK2m.out
          obtain ⟨k2, hk2'⟩ : ∃ k2, st2.k = k2 := ⟨_, rfl⟩
          rw [hk2'] at R9 HSS2 hk2 hk21
          try rw [hk2']
          obtain ⟨k1, hk1'⟩ : ∃ k1, st1.k = k1 := ⟨_, rfl⟩
          obtain ⟨en1, hen1⟩ : ∃ en1, decide (cnt (st1.going P) P.nh = 0) = en1 := ⟨_, rfl⟩
          rw [hk1', hen1] at RT9
          rw [hk1'] at HSS hk1 hk2 hk21
          try rw [hk1']
          have HK1 := hide hk1'
          have HK2 := hide hk2'
          have HEN := hide hen1
          clear hk1' hk2' hen1
          have t0 : W9.cell? ⟨bt, 0, none⟩ = some (.slice sa k1 sc) := RT9.out.cell (i := 0) (by decide)
          have u0 : W9.cell? ⟨b2, 0, none⟩ = some (.slice sa2 k2 sc2) := R9.out.cell (i := 0) (by decide)
          have lt9 := RT9.out.lt
          have lu9 := R9.out.lt
          have S9a := hide ((HSS.out.below B79.out (Nat.le_refl _)))
          have S9b := hide ((HSS2.out.below B89.out (Nat.le_refl _)))
          have A9a := hide ((HSA.out.below B79.out (Nat.le_refl _)))
          have A9b := hide ((HSA2.out.below B89.out (Nat.le_refl _)))
          go_upto_region 16 with (fail)
          try simp only [hk2, Int.ofNat_lt]
          try simp only [hk2]
          clear hk2 HK2m
          go_wp2_with fail
          go_loopw [20] (fun v wr => ∃ i m : Nat, i ≤ k2 ∧ v = .int .i64 i ∧ wr = W9.drewN m) (fun v _ => k2 - (intOf v).toNat)
          case atStart => exact ⟨0, 0, Nat.zero_le _, rfl, rfl⟩
          case round =>
            as_aux_lemma =>
              obtain ⟨i, mi, hi, rfl, rfl⟩ := hrel
              by_cases hlt : i < k2
              · as_aux_lemma =>
                  have hin : (i : Int) < (k2 : Int) := by omega
                  have hin1 : (i : Int) < (k1 : Int) := by omega
                  obtain ⟨b, off, rfl, hbl, hc⟩ := S9a.out i (by omega)
                  obtain ⟨b', off', rfl, hbl', hc'⟩ := S9b.out i hlt
                  have hx := HP.out.s i (by rw [HK2.out]; exact hlt)
                  obtain ⟨x, hx2⟩ : ∃ x, st2.s i = x := ⟨_, rfl⟩
                  rw [hx2] at hx hc'
                  rw [hx] at hc
                  obtain ⟨xh, xa, xt, xd, xp, xo⟩ := x
                  have a0 := hc 0 (by decide)
                  have a1 := hc 1 (by decide)
                  have a2 := hc 2 (by decide)
                  have a3 := hc 3 (by decide)
                  have a4 := hc 4 (by decide)
                  have a5 := hc 5 (by decide)
                  have b0 := hc' 0 (by decide)
                  have b1 := hc' 1 (by decide)
                  have b2' := hc' 2 (by decide)
                  have b3 := hc' 3 (by decide)
                  have b4 := hc' 4 (by decide)
                  have b5 := hc' 5 (by decide)
                  simp only [Stp.cell, Nat.add_zero] at a0 a1 a2 a3 a4 a5 b0 b1 b2' b3 b4 b5
                  clear hc hc' hx hx2
                  go_upto_region 19 with (fail)
                  go_quiet (fail)
                  go_wp2_with fail
                  go_roundw
                  case rel => exact ⟨i + 1, _, by omega, by go_num, rfl⟩
                  case measure => simp [intOf]; omega
              · as_aux_lemma =>
                  obtain rfl : k2 = i := by omega
                  have hii : ¬ (k2 : Int) < (k2 : Int) := by omega
                  clear S9a S9b
                  go_wp2_with fail
                  clear u0 t0
                  go_loopw [21] (fun v wr => ∃ i m : Nat, i ≤ P.nh ∧ v = .int .i64 i ∧ wr = W9.drewN m) (fun v _ => P.nh - (intOf v).toNat)
                  case atStart => exact ⟨0, _, Nat.zero_le _, rfl, rfl⟩
                  case round =>
                    as_aux_lemma =>
                      obtain ⟨i, mj, hi, rfl, rfl⟩ := hrel
                      by_cases hlt : i < P.nh
                      · as_aux_lemma =>
                          have hin : (i : Int) < (P.nh : Int) := by omega
                          obtain ⟨b, off, av, cv, rfl, hbl, hcc, hj⟩ := A9a.out i hlt
                          obtain ⟨b', off', av', cv', rfl, hbl', hcc', hj'⟩ := A9b.out i hlt
                          have hd := HP.out.d i
                          have hd256 := HD.out i hlt
                          have HAN := hide (HP.out.a i)
                          have HJ := hide hj
                          have HJ' := hide hj'
                          obtain ⟨d1, hd1⟩ : ∃ d1, st1.done i = d1 := ⟨_, rfl⟩
                          obtain ⟨d2, hd2⟩ : ∃ d2, st2.done i = d2 := ⟨_, rfl⟩
                          rw [hd1] at hcc HJ hd hd256
                          rw [hd2] at hcc' HJ' hd HAN
                          have ddc : decide ((d1 : Int) < (d2 : Int)) = false := by simp; omega
                          have ddn : ¬ (d1 : Int) < (d2 : Int) := by omega
                          clear hj hj' hd1 hd2
                          go_upto_region 24 with (fail)
                          go_quiet (fail)
                          go_wp2_with fail
                          go_loopw [22] (fun v wr => ∃ q m : Nat, q ≤ d2 ∧ v = .int .i64 q ∧ wr = W9.drewN m) (fun v _ => d2 - (intOf v).toNat)
                          case atStart => exact ⟨0, _, Nat.zero_le _, rfl, rfl⟩
                          case round =>
                            as_aux_lemma =>
                              obtain ⟨q, mk', hq, rfl, rfl⟩ := hrel
                              by_cases hlq : q < d2
                              · have hqn : (q : Int) < (d2 : Int) := by omega
                                have hqn1 : (q : Int) < (d1 : Int) := by omega
                                obtain ⟨bj, oj, rfl, hlj, hcj⟩ := HJ.out q (by omega)
                                obtain ⟨bj', oj', rfl, hlj', hcj'⟩ := HJ'.out q hlq
                                have hx := HAN.out q hlq
                                obtain ⟨x, hx2⟩ : ∃ x, st2.ans i q = x := ⟨_, rfl⟩
                                rw [hx2] at hx hcj'
                                rw [hx] at hcj
                                obtain ⟨xo, xv⟩ := x
                                have a0 := hcj 0 (by decide)
                                have a1 := hcj 1 (by decide)
                                have b0 := hcj' 0 (by decide)
                                have b1 := hcj' 1 (by decide)
                                simp only [Ans.cell, Nat.add_zero] at a0 a1 b0 b1
                                clear hcj hcj' hx hx2
                                go_upto_region 29 with (fail)
                                go_quiet (fail)
                                go_wp2_with fail
                                go_roundw
                                case rel => exact ⟨q + 1, _, by omega, by go_num, rfl⟩
                                case measure => simp [intOf]; omega
                              · obtain rfl : d2 = q := by omega
                                have hqq : ¬ (d2 : Int) < (d2 : Int) := by omega
                                go_wp2_with fail
                                go_roundw
                                case rel => exact ⟨i + 1, _, by omega, by go_num, rfl⟩
                                case measure => simp [intOf]; omega
                      · as_aux_lemma =>
                          obtain rfl : i = P.nh := by omega
                          have hii2 : ¬ (P.nh : Int) < (P.nh : Int) := by omega
                          have c3a := fun h => cutI (ao := aos) (n := P.ns) (cap := caps) (q := k1) h
                          have c3b := cutI (ao := aos) (n := P.ns) (cap := caps) (q := P.ns) hcs
                          have HC3a := hide c3a
                          have HC3b := hide c3b
                          clear c3a c3b
                          obtain ⟨WL, hWL⟩ : ∃ WL, W9.drewN mj = WL := ⟨_, rfl⟩
                          have BL := hide (show Below w.heap.size w WL from by rw [← hWL]; exact below_drewN B09.out _)
                          have B7L := hide (show Below w7.heap.size w7 WL from by rw [← hWL]; exact below_drewN B79.out _)
                          have RTL := hide (show WL.rowIs bt 29 3 (lrow [.slice sa k1 sc, .slice wa P.n wcc, .bool en1]) from by rw [← hWL]; exact RT9.out.of_block rfl)
                          have t0 : WL.cell? ⟨bt, 0, none⟩ = some (.slice sa k1 sc) := RTL.out.cell (i := 0) (by decide)
                          have FC : Fine (WkN.cutP P k1) (mN : Int) := ⟨HFi.out.1, HFi.out.2.1, Nat.le_trans (Nat.min_le_left _ _) HFi.out.2.2.1, HFi.out.2.2.2⟩
                          have PC := hide (fun (q3 : Nat) (hq3e : min P.ns k1 = q3) => show Calls Try.prog 6 #[.slice ao P.n cap, .slice aoh P.nh caph, .slice aos q3 caps, .int .i64 (mN : Int), .func (.func 7) #[] #[]] WL (Q31 WL P st1 k1 en1) from by
                            have hr := WkN.run_cut (P := P) (st := st0 kWk P f) rfl mN mN (Nat.le_refl _)
                            rw [HST1.out, HK1.out] at hr
                            have hp := (OfAny.play_all (K := kWk) (mk := .func (.func 7) #[] #[]) (w := WL) (P := WkN.cutP P k1) (f := f) (most := (mN : Int)) (cap := cap) (caph := caph) (caps := caps) ((HS.out.below BL.out (Nat.le_refl _)).mono BL.out.size) HF.out (upH (HH.out.below BL.out (Nat.le_refl _)) BL.out.size) hn63 (upI (cutS (HI.out.below BL.out (Nat.le_refl _)) (Nat.min_le_left _ _)) BL.out.size) HJW.out WkK.isKind (fun w' _ => WkK.makes w')).mono (fun e w' h => run_of h FC HAo.out)
                            rw [← hq3e]
                            refine hp.mono ?_
                            rintro e w' ⟨h1, v, h2, h3⟩
                            refine q31_of (c := k1) HK1.out HEN.out ⟨h1, v, h2, ?_⟩
                            rw [Int.toNat_natCast] at h3
                            have h4 : runSt (WkN.cutP P k1) (st0 kWk (WkN.cutP P k1) f) mN = st1 := hr
                            rw [h4] at h3
                            exact h3)
                          rw [hWL]
                          clear hWL A9a A9b lt9 lu9 R9 RT9
                          go_upto_region 31 with (fail)
                          go_cut [23, 24, 19] from 183 to 198 (fun v23 v24 v19 wx => C31 WL P st1 k1 en1 v23 v24 v19 wx)
                          case first =>
                            as_aux_lemma =>
                              by_cases hkk : k1 < P.ns
                              · have hkk' : (k1 : Int) < (P.ns : Int) := by omega
                                have c3 := HC3a.out (show k1 ≤ caps by omega)
                                have e3 : (k1 : Int) ≤ (caps : Int) := by omega
                                have PCx := hide (PC.out k1 (by omega))
                                go_wp2_with (go_at_call 6; refine PCx.out.mono ?_; rintro e w10 ⟨sa3, sc3, g3, ba3, rfl, hC⟩; have HCC := hide hC; clear hC)
                                go_meet
                                case rel => exact HCC.out
                              · have hkk' : ¬ (k1 : Int) < (P.ns : Int) := by omega
                                have c3 := HC3b.out
                                have e3 : (P.ns : Int) ≤ (caps : Int) := by omega
                                have PCx := hide (PC.out P.ns (by omega))
                                go_wp2_with (go_at_call 6; refine PCx.out.mono ?_; rintro e w10 ⟨sa3, sc3, g3, ba3, rfl, hC⟩; have HCC := hide hC; clear hC)
                                go_meet
                                case rel => exact HCC.out
                          case rest =>
                          obtain ⟨b3, sa3, sc3, g3, ba3, A3, rfl, rfl, rfl, BL11, hg3, hba3, hne3, hg3b, hbab, R11, R3, C3, SS3, SA3⟩ := hcut
                          obtain ⟨W11, hW11⟩ : ∃ W11, W11 = wc := ⟨_, rfl⟩
                          subst hW11
                          have R11 := hide R11
                          have HR3 := hide R3
                          have HC3 := hide C3
                          have HSS3 := hide SS3
                          have HSA3 := hide SA3
                          have B711 := hide (show Below w7.heap.size w7 W11 from B7L.out.trans (BL11.mono B7L.out.size))
                          have RT11 := hide (R7.out.of_block (B711.out.block bt R7.out.lt))
                          have sL := B7L.out.size
                          have s11 := BL11.size
                          clear PC HC3a HC3b t0 R3 C3 SS3 SA3 BL11
                          have r0 : W11.cell? ⟨b3, 0, none⟩ = some (.slice sa3 k1 sc3) := R11.out.cell (i := 0) (by decide)
                          have r1 : W11.cell? ⟨b3, 1, none⟩ = some (.slice (some ⟨g3, 0, none⟩) P.n P.n) := R11.out.cell (i := 1) (by decide)
                          have r2 : W11.cell? ⟨b3, 2, none⟩ = some (.bool en1) := R11.out.cell (i := 2) (by decide)
                          rw [HK1.out, HEN.out] at RT11
                          have t0 : W11.cell? ⟨bt, 0, none⟩ = some (.slice sa k1 sc) := RT11.out.cell (i := 0) (by decide)
                          have t1 : W11.cell? ⟨bt, 1, none⟩ = some (.slice wa P.n wcc) := RT11.out.cell (i := 1) (by decide)
                          have t2 : W11.cell? ⟨bt, 2, none⟩ = some (.bool en1) := RT11.out.cell (i := 2) (by decide)
                          have ST11 := hide (same_trace (en := en1) (cap := sc3) (cap' := sc) (capw := P.n) (capw' := wcc) HSS3.out ((HSS.out.below B711.out (Nat.le_refl _)).mono B711.out.size) HR3.out.sees ((HSW.out.below B711.out (Nat.le_refl _)).mono B711.out.size) (by omega) hk1)
                          go_upto_region 34 with (first
                            | (go_at_call 9; refine ST11.out.mono ?_; rintro e w12 ⟨rfl, hb⟩; have B1112 := hide hb; have SA12 := hide (same_answers (cap := P.nh) (cap' := ac) (w := w12) (B := w12.heap.size) ((HSA3.out.below hb (Nat.le_refl _)).mono hb.size) (((HSA.out.below B711.out (Nat.le_refl _)).mono B711.out.size |>.below hb (Nat.le_refl _)).mono hb.size) (by omega) HD.out); clear hb)
                            | (go_at_call 10; refine SA12.out.mono ?_; rintro e w13' ⟨rfl, m13, rfl⟩))
                          obtain ⟨V, hV⟩ : ∃ V, w12.drewN m13 = V := ⟨_, rfl⟩
                          have B11V := hide (show Below W11.heap.size W11 V from by rw [← hV]; exact below_drewN B1112.out _)
                          rw [hV]
                          clear hV ST11 SA12 B1112 r0 r1 r2 t0 t1 t2
                          have B7V := hide (B711.out.trans (B11V.out.mono B711.out.size))
                          obtain ⟨bs, hbs⟩ : ∃ bs, WL.heap.size + 1 = bs := ⟨_, rfl⟩
                          rw [hbs] at hg3 hba3 HC3
                          have hs7 : w7.heap.size ≤ bs := by omega
                          have l3w := HR3.out.lt
                          have lba := HC3.out.row.lt
                          have gw7 : gw < w7.heap.size := by have := R6.out.lt; have := s7.out; omega
                          have WS0 := hide (show Ws w7 V P.n cw gw g3 b3 bs [.slice sa3 k1 sc3, .slice (some ⟨g3, 0, none⟩) P.n P.n, .bool en1] from ⟨Touch.of_below B7V.out _, ⟨_, (R6.out.block (show w7.heap[gw]? = w6.heap[gw]? from R67.out)).below B7V.out⟩, ⟨_, HR3.out.below B11V.out⟩, R11.out.of_block (B11V.out.block b3 R11.out.lt), gw7, by omega, by omega, by omega, hs7⟩)
                          have CV0 := hide (show Cv V bs ba3 P.nh st1.done 0 A3 from cv_below HC3.out B11V.out)
                          have hbb : ba3 ≠ b3 := by omega
                          have hgb : ba3 ≠ gw := by omega
                          clear R11 RT11 HR3 HC3 B711 B11V HSS3 HSA3 l3w lba
                          go_wp2_with fail
                          go_loopw [25] (fun v wr => ∃ i : Nat, i ≤ P.n + 1 ∧ v = .int .i64 i ∧ Hid (Ws w7 wr P.n cw gw g3 b3 bs [.slice sa3 k1 sc3, .slice (some ⟨g3, 0, none⟩) P.n P.n, .bool en1]) ∧ Hid (Cv wr bs ba3 P.nh st1.done 0 A3)) (fun v _ => P.n + 1 - (intOf v).toNat)
                          case atStart => exact ⟨0, Nat.zero_le _, rfl, WS0.out, CV0.out⟩
                          case round =>
                            as_aux_lemma =>
                              obtain ⟨i, hi, rfl, KA, KC⟩ := hrel
                              by_cases hlt : i < P.n + 1
                              · as_aux_lemma =>
                                  have hin : (i : Int) < (P.n : Int) + 1 := by omega
                                  obtain ⟨Fw, hFw⟩ := KA.out.rw
                                  have hc := hFw.cell hlt
                                  have hfz := hFw.frozen i
                                  clear hFw
                                  go_wp2_with fail
                                  go_roundw
                                  case rel => exact ⟨i + 1, by omega, by go_num, KA.out.setw i 5 (by decide), KC.out.put gw i _ (fun e => hgb e.symm)⟩
                                  case measure => simp [intOf]; omega
                              · as_aux_lemma =>
                                  obtain rfl : i = P.n + 1 := by omega
                                  have hii : ¬ (P.n : Int) + 1 < (P.n : Int) + 1 := by omega
                                  obtain ⟨Wn, hWn⟩ : ∃ Wn, Wn = wr := ⟨_, rfl⟩
                                  subst hWn
                                  have f1 : Wn.cell? ⟨b3, 1, none⟩ = some (.slice (some ⟨g3, 0, none⟩) P.n P.n) := KA.out.rb.cell (i := 1) (by decide)
                                  go_wp2_with fail
                                  clear f1
                                  go_loopw [26] (fun v wr => ∃ i : Nat, i ≤ P.n ∧ v = .int .i64 i ∧ Hid (Ws w7 wr P.n cw gw g3 b3 bs [.slice sa3 k1 sc3, .slice (some ⟨g3, 0, none⟩) P.n P.n, .bool en1]) ∧ Hid (Cv wr bs ba3 P.nh st1.done 0 A3)) (fun v _ => P.n - (intOf v).toNat)
                                  case atStart => exact ⟨0, Nat.zero_le _, rfl, KA.out, KC.out⟩
                                  case round =>
                                    as_aux_lemma =>
                                      obtain ⟨i2, hi2, rfl, KA, KC⟩ := hrel
                                      have f1 : wr.cell? ⟨b3, 1, none⟩ = some (.slice (some ⟨g3, 0, none⟩) P.n P.n) := KA.out.rb.cell (i := 1) (by decide)
                                      by_cases hlt : i2 < P.n
                                      · as_aux_lemma =>
                                          have hin : (i2 : Int) < (P.n : Int) := by omega
                                          obtain ⟨Fw, hFw⟩ := KA.out.r3
                                          have hc := hFw.cell hlt
                                          have hfz := hFw.frozen i2
                                          clear hFw
                                          go_wp2_with fail
                                          go_roundw
                                          case rel => exact ⟨i2 + 1, by omega, by go_num, KA.out.set3 i2 6 (by decide), KC.out.put g3 i2 _ hne3⟩
                                          case measure => simp [intOf]; omega
                                      · as_aux_lemma =>
                                          obtain rfl : i2 = P.n := by omega
                                          have hii2 : ¬ (P.n : Int) < (P.n : Int) := by omega
                                          obtain ⟨Wm, hWm⟩ : ∃ Wm, Wm = wr := ⟨_, rfl⟩
                                          subst hWm
                                          go_wp2_with fail
                                          clear f1
                                          obtain ⟨iA, hiA, hzA, hsA, hyA⟩ := infoA
                                          go_loopw [27] (fun v wr => ∃ (i : Nat) (A : Nat → Value), i ≤ P.nh ∧ v = .int .i64 i ∧ Hid (Ws w7 wr P.n cw gw g3 b3 bs [.slice sa3 k1 sc3, .slice (some ⟨g3, 0, none⟩) P.n P.n, .bool en1]) ∧ Hid (Cv wr bs ba3 P.nh st1.done i A)) (fun v _ => P.nh - (intOf v).toNat)
                                          case atStart => exact ⟨0, A3, Nat.zero_le _, rfl, KA.out, KC.out⟩
                                          case round =>
                                            as_aux_lemma =>
                                              obtain ⟨i, A, hi, rfl, KA, KC⟩ := hrel
                                              by_cases hlt : i < P.nh
                                              · as_aux_lemma =>
                                                  have hin : (i : Int) < (P.nh : Int) := by omega
                                                  obtain ⟨xs0, ho0⟩ := KC.out.own i (Nat.le_refl _) hlt
                                                  obtain ⟨av, cp, hAi⟩ := own_val ho0
                                                  have hd256 := HD.out i hlt
                                                  obtain ⟨d, hd⟩ : ∃ d, st1.done i = d := ⟨_, rfl⟩
                                                  rw [hd] at hAi hd256
                                                  have Hd := hide hd
                                                  have HAi := hide hAi
                                                  clear ho0 hd hAi
                                                  obtain ⟨wo, rfl⟩ : ∃ wo, wo = wr := ⟨_, rfl⟩
                                                  go_wp2_with fail
                                                  go_loopw [28] (fun v wx => ∃ k : Nat, k ≤ d ∧ v = .int .i64 k ∧ Hid (Ws w7 wx P.n cw gw g3 b3 bs [.slice sa3 k1 sc3, .slice (some ⟨g3, 0, none⟩) P.n P.n, .bool en1]) ∧ Hid (Cv wx bs ba3 P.nh st1.done i A)) (fun v _ => d - (intOf v).toNat)
                                                  case atStart => exact ⟨0, Nat.zero_le _, rfl, KA.out, KC.out⟩
                                                  case round =>
                                                    as_aux_lemma =>
                                                      obtain ⟨k, hk, rfl, KX, KD⟩ := hrel
                                                      have ca : wr.cell? ⟨ba3, i, none⟩ = some (.slice av d cp) := by rw [KD.out.row.cell hlt, HAi.out]
                                                      by_cases hlk : k < d
                                                      · as_aux_lemma =>
                                                          have hkn : (k : Int) < (d : Int) := by omega
                                                          obtain ⟨xs, ho⟩ := KD.out.own i (Nat.le_refl _) hlt
                                                          rw [HAi.out, Hd.out] at ho
                                                          obtain ⟨g, u, hav, hlo, hcx, hfz⟩ := ans_cell ho hlk
                                                          subst hav
                                                          have g3n : g ≠ g3 := fun e => KX.out.ne3 ho (by simp [Value.ownBlock, e])
                                                          have gbn : g ≠ b3 := fun e => KX.out.neb ho (by simp [Value.ownBlock, e])
                                                          have gan : g ≠ ba3 := fun e => row_ne_own KD.out.row ho (by decide) (by simp [Value.ownBlock, e])
                                                          clear ho
                                                          go_wp2_with fail
                                                          go_roundw
                                                          case rel => exact ⟨k + 1, by omega, by go_num, KX.out.seta (x := g) (k * 2 + 1) _ hlo g3n gbn, KD.out.put g (k * 2 + 1) _ gan⟩
                                                          case measure => simp [intOf]; omega
                                                      · as_aux_lemma =>
                                                          obtain rfl : k = d := by omega
                                                          have hkk : ¬ (k : Int) < (k : Int) := by omega
                                                          obtain ⟨Wk, hWk⟩ : ∃ Wk, Wk = wr := ⟨_, rfl⟩
                                                          subst hWk
                                                          go_wp2_with fail
                                                          clear ca
                                                          go_loopw [29] (fun v wx => ∃ (q : Nat) (A' : Nat → Value), q ≤ 8 ∧ v = .int .i64 q ∧ Hid (Ws w7 wx P.n cw gw g3 b3 bs [.slice sa3 k1 sc3, .slice (some ⟨g3, 0, none⟩) P.n P.n, .bool en1]) ∧ Hid (Cw wx bs ba3 P.nh st1.done i q A')) (fun v _ => 8 - (intOf v).toNat)
                                                          case atStart => exact ⟨0, A, Nat.zero_le _, rfl, KX.out, KD.out.cw hlt⟩
                                                          case round =>
                                                            as_aux_lemma =>
                                                              obtain ⟨q, A', hq, rfl, KY, KE⟩ := hrel
                                                              obtain ⟨xs, ho⟩ := KE.out.own
                                                              obtain ⟨av2, cp2, hA2⟩ := own_val ho
                                                              rw [Hd.out] at ho hA2
                                                              by_cases hlq : q < 8
                                                              · have hqn : (q : Int) < 8 := by omega
                                                                have ca : wr.cell? ⟨ba3, i, none⟩ = some (.slice av2 (k + q) cp2) := by rw [KE.out.cv.row.cell hlt, hA2]
                                                                have HO := hide ho
                                                                have HA2 := hide hA2
                                                                have lba := KE.out.cv.row.lt
                                                                rw [hA2] at HO
                                                                have sbs : bs ≤ wr.heap.size := by omega
                                                                clear ho hA2
                                                                go_wp2_with (at_builtin; refine wpList_append_own_at _ rfl (.tmp 264) (.tmp 266) 38 rfl bs 40 iA (.agg #[.bool false, .int .u64 0]) 2 16 Try.underlying38 hiA hzA hsA hyA rfl (by decide) (.slice av2 (k + q) cp2) (k + q) xs rfl (HO.out.alloc _) ⟨wr.heap.size, 0, none⟩ 1 1 [.bool false, .int .u64 8] rfl rfl (by intro j u hu; have := cells_new wr #[.bool false, .int .u64 8] 40 j u (by simpa using hu); simpa using this) (by intro u hu; simp at hu; rcases hu with rfl | rfl <;> rfl) (by unfold maxLen; omega) (by omega) (by simp; omega) ?_; intro v6 w6a hown6 hg6 _ hat6; obtain ⟨l6, p6, rfl⟩ := own_val hown6; have O6 := hide hown6; have G6 := hide (show (wr.alloc (.cells #[.bool false, .int .u64 8] 40)).grownBy w6a (A' i).ownBlock from by rw [HA2.out]; exact hg6); have AT6 := hide (show (Value.slice l6 (k + q + 1) p6).ownBlock = (A' i).ownBlock ∨ (Value.slice l6 (k + q + 1) p6).ownBlock = some (wr.alloc (.cells #[.bool false, .int .u64 8] 40)).heap.size from by rw [HA2.out]; exact hat6); have cb : w6a.cell? ⟨ba3, i, none⟩ = some (.slice av2 (k + q) cp2) := (by rw [(cw_row KE.out G6.out).cell hlt, HA2.out]); have cf : w6a.frozen? ⟨ba3, i, none⟩ = false := (cw_row KE.out G6.out).frozen i; clear hown6 hg6 hat6)
                                                                go_roundw
                                                                case rel =>
                                                                  refine ⟨q + 1, upd A' i (.slice l6 (k + q + 1) p6), by omega, by go_num, (KY.out.app (v := A' i) (by rw [HA2.out]; exact HO.out) G6.out).seta (x := ba3) i _ hba3 (fun e => hne3 e.symm) hbb, KE.out.step (by rw [Hd.out]; exact O6.out) G6.out AT6.out⟩
                                                                case measure => simp [intOf]; omega
                                                              · obtain rfl : q = 8 := by omega
                                                                clear ho hA2
                                                                go_wp2_with fail
                                                                go_roundw
                                                                case rel => exact ⟨i + 1, A', by omega, by go_num, KY.out, KE.out.cv⟩
                                                                case measure => simp [intOf]; omega
                                              · as_aux_lemma =>
                                                  obtain rfl : i = P.nh := by omega
                                                  have hnn2 : ¬ (P.nh : Int) < (P.nh : Int) := by omega
                                                  obtain ⟨Wz, hWz⟩ : ∃ Wz, Wz = wr := ⟨_, rfl⟩
                                                  subst hWz
                                                  have BZ := hide (show Below w.heap.size w Wz from B07.out.trans (KA.out.t.below (fun q e => by omega) B07.out.size))
                                                  have PD := hide ((OfAny.play_all (K := kWk) (mk := .func (.func 7) #[] #[]) (w := Wz) (P := P) (f := f) (most := (mN : Int)) (cap := cap) (caph := caph) (caps := caps) ((HS.out.below BZ.out (Nat.le_refl _)).mono BZ.out.size) HF.out (upH (HH.out.below BZ.out (Nat.le_refl _)) BZ.out.size) hn63 (upI (HI.out.below BZ.out (Nat.le_refl _)) BZ.out.size) HJW.out WkK.isKind (fun w' _ => WkK.makes w')).mono (fun e w' h => run_of h HFi.out HAo.out))
                                                  have TZ := hide KA.out.t
                                                  clear KA KC
                                                  go_upto_region 54 with (go_at_call 6; refine PD.out.mono ?_; rintro e w14 ⟨hb, v4, rfl, T4⟩; rw [Int.toNat_natCast, HST1.out] at T4; obtain ⟨sa4, sc4, wa4, wc4, aa4, ac4, rfl, SS4, SW4, SA4⟩ := told_sees T4; have B14 := hide hb; have HSS4 := hide SS4; have HSW4 := hide SW4; have HSA4 := hide SA4; clear hb T4 SS4 SW4 SA4)
                                                  rw [HK1.out, HEN.out]
                                                  rw [HK1.out] at HSS4
                                                  obtain ⟨W15, hW15⟩ : ∃ W15, w14.alloc (.cells #[.slice sa4 k1 sc4, .slice wa4 P.n wc4, .bool en1] 29) = W15 := ⟨_, rfl⟩
                                                  have R15 := hide (show W15.rowIs w14.heap.size 29 3 (lrow [.slice sa4 k1 sc4, .slice wa4 P.n wc4, .bool en1]) from by rw [← hW15]; exact rowL_alloc w14 [.slice sa4 k1 sc4, .slice wa4 P.n wc4, .bool en1] _ rfl)
                                                  have B1415 := hide (show Below w14.heap.size w14 W15 from by rw [← hW15]; exact (Below.refl _ w14).alloc (Nat.le_refl _) _)
                                                  have s15 := B1415.out.size
                                                  have BZ15 := hide (show Below Wz.heap.size Wz W15 from B14.out.trans (B1415.out.mono B14.out.size))
                                                  have T15 := hide (show Touch w7 W15 (fun q => q = gw) from TZ.out.trans' (S' := fun _ => False) (Touch.of_below BZ15.out _) (fun _ _ h => h.elim))
                                                  have RT15 := hide (R7.out.of_block (T15.out.block bt R7.out.lt (fun e => by omega)))
                                                  try rw [hW15]
                                                  clear hW15 PD TZ
                                                  obtain ⟨b4, hb4⟩ : ∃ b4, w14.heap.size = b4 := ⟨_, rfl⟩
                                                  rw [hb4] at R15
                                                  try rw [hb4]
                                                  clear hb4
                                                  rw [HK1.out, HEN.out] at RT15
                                                  have r0 : W15.cell? ⟨b4, 0, none⟩ = some (.slice sa4 k1 sc4) := R15.out.cell (i := 0) (by decide)
                                                  have r1 : W15.cell? ⟨b4, 1, none⟩ = some (.slice wa4 P.n wc4) := R15.out.cell (i := 1) (by decide)
                                                  have r2 : W15.cell? ⟨b4, 2, none⟩ = some (.bool en1) := R15.out.cell (i := 2) (by decide)
                                                  have t0 : W15.cell? ⟨bt, 0, none⟩ = some (.slice sa k1 sc) := RT15.out.cell (i := 0) (by decide)
                                                  have t1 : W15.cell? ⟨bt, 1, none⟩ = some (.slice wa P.n wcc) := RT15.out.cell (i := 1) (by decide)
                                                  have t2 : W15.cell? ⟨bt, 2, none⟩ = some (.bool en1) := RT15.out.cell (i := 2) (by decide)
                                                  have TT := told_keep HT7.out T15.out (fun q e => by omega)
                                                  obtain ⟨sx, cx, wx', cwx, ax, cax, ev, SSx, SWx, SAx⟩ := told_sees TT
                                                  cases ev
                                                  rw [HK1.out] at SSx
                                                  have ST15 := hide (same_trace (en := en1) (cap := sc4) (cap' := sc) (capw := wc4) (capw' := wcc) ((HSS4.out.below B1415.out (Nat.le_refl _)).mono s15) SSx ((HSW4.out.below B1415.out (Nat.le_refl _)).mono s15) SWx (by omega) hk1)
                                                  have HSAx := hide SAx
                                                  clear SSx SWx SAx TT
                                                  have B015 := hide (show Below w.heap.size w W15 from BZ.out.trans (BZ15.out.mono BZ.out.size))
                                                  go_wp2_with (first
                                                    | (go_at_call 9; refine ST15.out.mono ?_; rintro e w16 ⟨rfl, hb⟩; have B16 := hide hb; have SA16 := hide (same_answers (cap := ac4) (cap' := ac) (w := w16) (B := w16.heap.size) (((HSA4.out.below B1415.out (Nat.le_refl _)).mono s15 |>.below hb (Nat.le_refl _)).mono hb.size) ((HSAx.out.below hb (Nat.le_refl _)).mono hb.size) (by omega) HD.out); clear hb)
                                                    | (go_at_call 10; refine SA16.out.mono ?_; rintro e w17' ⟨rfl, m17, rfl⟩))
                                                  go_ret
                                                  exact ⟨rfl, below_drewN (B015.out.trans (B16.out.mono B015.out.size)) _⟩
      · have he' : (er != 0) = true := by simpa using he
        go_wp2_with fail
        go_ret
        exact ⟨rfl, B07.out⟩
end WkW
end Go.Proofs.Ytafaiikgpooflaa
