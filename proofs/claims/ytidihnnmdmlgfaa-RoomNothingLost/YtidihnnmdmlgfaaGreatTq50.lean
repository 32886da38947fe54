/-
  Lemmas: RoomTF.
-/
import Derived.Test.YtidihnnmdmlgfaaGreatTq37
import Derived.Test.YtidihnnmdmlgfaaGreatTq49
import Derived.Test.YtidihnnmdmlgfaaGreatTq48
import Derived.Test.YtidihnnmdmlgfaaGreatTq29
import Derived.Test.YtidihnnmdmlgfaaGreatTq14
namespace Go.Proofs.YtidihnnmdmlgfaaGreat
set_option maxHeartbeats 8000000
open Go.RowKit
set_option linter.unusedVariables false
set_option linter.unusedSimpArgs false
set_option linter.unnecessarySimpa false
set_option maxRecDepth 20000
section
namespace Rom
open Hp (there_row)
def fsh (sh : Shp) : Shape.Sh := ⟨sh.a.toNat, sh.b.toNat, sh.c.toNat, sh.d.toNat, sh.e.toNat⟩
def ff (sh : Shp) : Nat → Int := Shape.F (fsh sh) (sh.a.toNat - 1)
theorem F_bd (x : Shape.Sh) : ∀ (m i : Nat), 0 ≤ Shape.F x m i ∧ Shape.F x m i ≤ (m : Int) + 1
  | 0, i => by
    unfold Shape.F putF
    split <;> simp
  | m + 1, i => by
    unfold Shape.F putF
    have := F_bd x m i
    split
    · omega
    · omega
theorem ff_bd {sh : Shp} (h5 : Shape.R5 sh.a sh.b sh.c sh.d sh.e) (i : Nat) : 0 ≤ ff sh i ∧ ff sh i ≤ 18446744073709551615 := by
  have := F_bd (fsh sh) (sh.a.toNat - 1) i
  have h2 := h5.1
  unfold ff
  omega
theorem fresh_yes {sh : Shp} (h5 : Shape.R5 sh.a sh.b sh.c sh.d sh.e) {n : Nat} (hn : (n : Int) = sizeOf sh) (w : World) : Calls Tryz.prog 8 #[sh.val] w fun e w' => ∃ g, e = .returned (.tuple #[.slice (some ⟨g, 0, none⟩) n n, .int .i64 0]) ∧ IsRow w' g n n (ff sh) ∧ w.heap.size ≤ g ∧ Below w.heap.size w w' := by
  obtain ⟨s0, s1, s2, s3, s4, s5⟩ := sh
  obtain ⟨o, s, hh, r, k, e0, e1, e2, e3, e4, H⟩ := Hp.natR5 h5
  simp only at e0 e1 e2 e3 e4
  subst e0 e1 e2 e3 e4
  have e : n = Shape.size ⟨o, s, hh, r, k⟩ := by have := size_eq (sh := ⟨(o : Int), (s : Int), (hh : Int), (r : Int), (k : Int), s5⟩) rfl rfl rfl rfl rfl; omega
  subst e
  refine (Shape.fresh_ok (s5 := s5) H w).mono ?_
  rintro e' w' ⟨g, rfl, R, hg, hb⟩
  exact ⟨g, rfl, R, hg, hb⟩
def TB (sh : Shp) (P : Par) (most : Int) (base : Nat) (er : Int) (sa : Option Addr) (k sc : Nat) (wa : Option Addr) (n wc : Nat) (en : Bool) (aa : Option Addr) (m ac : Nat) (w' : World) : Prop :=
  er = 0 → Fine P most ∧ AllOk (kRom false sh) P ∧ Told (kRom false sh) P (runSt P (st0 (kRom false sh) P (ff sh)) most.toNat) base (tv3 sa k sc wa n wc en aa m ac 0) w'
theorem TB.touch {sh : Shp} {P : Par} {most : Int} {base base' b : Nat} {er : Int} {sa wa aa : Option Addr} {k sc n wc m ac : Nat} {en : Bool} {w1 w2 : World} (h : TB sh P most base er sa k sc wa n wc en aa m ac w1) (ht : Touch w1 w2 (fun k => k = b)) (hb : b < base) (hbb : base' ≤ base) : TB sh P most base' er sa k sc wa n wc en aa m ac w2 := fun he =>
  ⟨(h he).1, (h he).2.1, told_touch (h he).2.2 ht hb hbb⟩
theorem tb_sees {sh : Shp} {P : Par} {most : Int} {base : Nat} {sa wa aa : Option Addr} {k sc n wc m ac : Nat} {en : Bool} {w' : World} (h : TB sh P most base 0 sa k sc wa n wc en aa m ac w') :
    ∃ st, st = runSt P (st0 (kRom false sh) P (ff sh)) most.toNat ∧ Fine P most ∧ AllOk (kRom false sh) P ∧ k = st.k ∧ n = P.n ∧ m = P.nh ∧ SeesS w' w'.heap.size sa k st.s ∧ Sees w' w'.heap.size wa n st.f ∧ SeesA w' w'.heap.size aa m st.done st.ans := by
  obtain ⟨hF, hok, blk, c, g, sv, hv, H, G, GS, R, hg, hne⟩ := h rfl
  refine ⟨_, rfl, hF, hok, ?_⟩
  obtain ⟨sa', sc', rfl⟩ := GS.isSlice'
  simp only [tv3, Value.tuple.injEq] at hv
  simp at hv
  obtain ⟨⟨⟨e1, e2, _⟩, ⟨e3, e4, _⟩, _⟩, e5, e6, _⟩ := hv
  subst e1 e2 e3 e4 e5 e6
  exact ⟨rfl, rfl, rfl, GS.seesS H, R.sees, seesA_of G.answers H⟩
variable {w : World} {ao aoh aos : Option Addr} {cap caph caps : Nat} {P : Par} {most : Int} {sh : Shp}
theorem play_tb (h5 : Shape.R5 sh.a sh.b sh.c sh.d sh.e) (hn : (P.n : Int) = sizeOf sh) (S : Sees w w.heap.size ao P.n (ff sh)) (SH : SeesH w w.heap.size aoh P.nh P.jn P.jb) (hn63 : P.nh ≤ 9223372036854775807) (SI : SeesI w w.heap.size aos P.ns P.sched) (hjw : ∀ h, h < P.nh → ∀ j, j < P.jn h → (P.jb h j).wf) :
    Calls Tryz.prog 9 #[sh.val, .slice ao P.n cap, .slice aoh P.nh caph, .slice aos P.ns caps, .int .i64 most] w fun e w' => Below w.heap.size w w' ∧ ∃ sa k sc wa n wc en aa m ac er, e = .returned (tv3 sa k sc wa n wc en aa m ac er) ∧ TB sh P most w.heap.size er sa k sc wa n wc en aa m ac w' := by
  refine (play_all h5 hn S (fun i _ => ff_bd h5 i) SH hn63 SI hjw).mono fun e w' h => ?_
  refine ⟨h.1, ?_⟩
  rcases h.2 with ⟨er, hle, he⟩ | ⟨hn', hF, hok, v, he, hT⟩
  · refine ⟨none, 0, 0, none, 0, 0, false, none, 0, 0, er, he, fun h0 => ?_⟩
    rcases hle with ⟨h, rfl⟩ | ⟨_, h⟩
    · exact absurd rfl h
    · exact absurd h0 h.ne
  · obtain ⟨sa, k, sc, wa, n, wc, en, aa, m, ac, rfl⟩ := told_shape hT
    exact ⟨sa, k, sc, wa, n, wc, en, aa, m, ac, 0, he, fun _ => ⟨hF, hok, hT⟩⟩
def Owned (P : Par) (st : St (kRom false sh)) : Prop := ∀ h, h < P.nh → ∃ l, ownN (P.jb h) (st.done h) (st.ans h) (min (P.jn h) (st.done h + 1)) = some l
def FT (sh : Shp) (P : Par) (most : Int) (base : Nat) (sa : Option Addr) (k sc : Nat) (wa : Option Addr) (n wc : Nat) (en : Bool) (aa : Option Addr) (m ac : Nat) (ok : Bool) (w' : World) : Prop :=
  ok = true → Shape.R5 sh.a sh.b sh.c sh.d sh.e ∧ TB sh P most base 0 sa k sc wa n wc en aa m ac w' ∧ Owned P (runSt P (st0 (kRom false sh) P (ff sh)) most.toNat)
def FC (W0 : World) (rb : Nat) (cs : List Value) (va : Value) (OK : Bool → Prop) : Nat → (Nat → Value) → World → Prop
  | 0, _, w' => Below W0.heap.size W0 w'
  | 1, s, w' => Below W0.heap.size W0 w' ∧ ∃ v, s 48 = .bool v ∧ OK v
  | 2, s, w' => (∃ w2, Below W0.heap.size W0 w2 ∧ Touch w2 w' (fun k => k = rb) ∧ w'.rangeAt rb 0 cs) ∧ ∃ v, s 48 = .bool v ∧ OK v
  | 3, s, w' => (∃ w2, Below W0.heap.size W0 w2 ∧ Touch w2 w' (fun k => k = rb) ∧ w'.rangeAt rb 0 cs) ∧ s 3 = va ∧ ∃ v, s 48 = .bool v ∧ OK v
  | _, s, w' => (∃ w2, Below W0.heap.size W0 w2 ∧ Touch w2 w' (fun k => k = rb) ∧ w'.rangeAt rb 0 cs) ∧ s 3 = va ∧ ∃ v, s 4 = .bool v ∧ OK v
theorem FC.local {W0 : World} {rb : Nat} {cs : List Value} {va : Value} {OK : Bool → Prop} {n : Nat} {s s' : Nat → Value} {w' : World} (h48 : s 48 = s' 48) (h3 : s 3 = s' 3) (h4 : s 4 = s' 4) (h : FC W0 rb cs va OK n s w') : FC W0 rb cs va OK n s' w' := by
  match n with
  | 0 => exact h
  | 1 => exact ⟨h.1, h48 ▸ h.2⟩
  | 2 => exact ⟨h.1, h48 ▸ h.2⟩
  | 3 => exact ⟨h.1, h3 ▸ h.2.1, h48 ▸ h.2.2⟩
  | _ + 4 => exact ⟨h.1, h3 ▸ h.2.1, h4 ▸ h.2.2⟩
theorem FC.past {W0 : World} {rb : Nat} {cs : List Value} {va : Value} {OK : Bool → Prop} {n : Nat} {s : Nat → Value} {w' : World} (h : FC W0 rb cs va OK n s w') {b : Nat} (hb : b < W0.heap.size) (hne : b ≠ rb) : w'.heap[b]? = W0.heap[b]? := by
  have two : (∃ w2, Below W0.heap.size W0 w2 ∧ Touch w2 w' (fun k => k = rb) ∧ w'.rangeAt rb 0 cs) → w'.heap[b]? = W0.heap[b]? := fun ⟨w2, h2, h3, _⟩ => (h3.block b (Nat.lt_of_lt_of_le hb h2.size) hne).trans (h2.block b hb)
  match n with
  | 0 => exact Below.block h b hb
  | 1 => exact h.1.block b hb
  | 2 => exact two h.1
  | 3 => exact two h.1
  | _ + 4 => exact two h.1
theorem lrow_range {w : World} {b : Nat} {t : TypeId} {cs : List Value} (h : w.rowIs b t cs.length (lrow cs)) : w.rangeAt b 0 cs := fun j v hj => by
  have hlt := (List.getElem?_eq_some_iff.1 hj).1
  rw [Nat.zero_add, h.cell (i := j) hlt]
  simp [lrow, hj]
theorem fresh_any {nw : Nat} (hn : Shape.R5 sh.a sh.b sh.c sh.d sh.e → (P.n : Int) = sizeOf sh) (SH : SeesH w w.heap.size aoh P.nh P.jn P.jb) (hn63 : P.nh ≤ 9223372036854775807) (SI : SeesI w w.heap.size aos P.ns P.sched) (hjw : ∀ h, h < P.nh → ∀ j, j < P.jn h → (P.jb h j).wf) :
    Calls Tryz.prog 6 #[.agg #[.int .i64 sh.a, .int .i64 sh.b, .int .i64 sh.c, .int .i64 sh.d, .int .i64 sh.e, .int .i64 sh.f, .slice ao nw cap, .slice aoh P.nh caph, .slice aos P.ns caps, .int .i64 most]] w fun e w' => Below w.heap.size w w' ∧ ∃ sa k sc wa n wc en aa m ac ok, e = .returned (.tuple #[.agg #[.slice sa k sc, .slice wa n wc, .bool en], .slice aa m ac, .bool ok]) ∧ FT sh P most w.heap.size sa k sc wa n wc en aa m ac ok w' := by
  have FB := hide (fun (h : ¬ Shape.R5 sh.a sh.b sh.c sh.d sh.e) (w1 : World) => Shape.fresh_bad (s5 := sh.f) h w1)
  have FO := hide (fun (h : Shape.R5 sh.a sh.b sh.c sh.d sh.e) (w1 : World) => fresh_yes h (hn h) w1)
  have PL := hide (fun (h : Shape.R5 sh.a sh.b sh.c sh.d sh.e) (w1 : World) (B1 : Below w.heap.size w w1) ao cap (S : Sees w1 w1.heap.size ao P.n (ff sh)) => play_tb (sh := sh) (most := most) (cap := cap) (caph := caph) (caps := caps) h (hn h) S ((SH.below B1 (Nat.le_refl _)).up B1.size) hn63 ((SI.below B1 (Nat.le_refl _)).up B1.size) hjw)
  have HSH := hide (fun (w1 : World) (B1 : Below w.heap.size w w1) => (SH.below B1 (Nat.le_refl _)).up B1.size)
  have UP := hide (fun (base base' b : Nat) er sa k sc wa n wc en aa m ac (w1 w2 : World) => @TB.touch sh P most base base' b er sa wa aa k sc n wc m ac en w1 w2)
  have TS := hide (fun (base : Nat) sa k sc wa n wc en aa m ac (w1 : World) => @tb_sees sh P most base sa wa aa k sc n wc m ac en w1)
  obtain ⟨FX, hFX⟩ : ∃ FX, FT sh P most = FX := ⟨_, rfl⟩
  have NO := hide (fun base (w2 : World) => show FX base none 0 0 none 0 0 false none 0 0 false w2 from by rw [← hFX]; exact fun h => absurd h (by decide))
  have YES := hide (fun (h5 : Shape.R5 sh.a sh.b sh.c sh.d sh.e) base sa k sc wa n wc en aa m ac ok (w2 : World) (h : TB sh P most base 0 sa k sc wa n wc en aa m ac w2) (ho : ok = true → Owned P (runSt P (st0 (kRom false sh) P (ff sh)) most.toNat)) => show FX base sa k sc wa n wc en aa m ac ok w2 from by rw [← hFX]; exact fun e => ⟨h5, h, ho e⟩)
  rw [hFX]
  clear hFX
  obtain ⟨OP, hOP⟩ : ∃ OP, Owned P (runSt P (st0 (kRom false sh) P (ff sh)) most.toNat) = OP := ⟨_, rfl⟩
  have OWN := hide (fun (w1 : World) (B1 : Below w.heap.size w w1) (sa : Option Addr) k sc (wa : Option Addr) n wc en (aa : Option Addr) ac base (T : TB sh P most base 0 sa k sc wa n wc en aa P.nh ac w1) (w2 : World) (B2 : Below w1.heap.size w1 w2) => show Calls Tryz.prog 10 #[.agg #[.int .i64 sh.a, .int .i64 sh.b, .int .i64 sh.c, .int .i64 sh.d, .int .i64 sh.e, .int .i64 sh.f, .slice ao nw cap, .slice aoh P.nh caph, .slice aos P.ns caps, .int .i64 most], .slice aa P.nh ac] w2 fun e w' => ∃ v, e = .returned (.bool v) ∧ (v = true → OP) ∧ Below w2.heap.size w2 w' from by
    obtain ⟨st, hst, hF, hok, _, _, _, _, _, SA⟩ := tb_sees T
    have hnl := hF.2.1
    have BB := B1.trans (B2.mono B1.size)
    refine (owned_any (by have : ¬ 8 < P.nh := fun h => hnl (.inl h); omega) (fun h hh => by have : ¬ 256 < P.jn h := fun h2 => hnl (.inr ⟨h, hh, h2⟩); omega) ((SH.below BB (Nat.le_refl _)).up BB.size) ((SA.below B2 (Nat.le_refl _)).mono B2.size)).mono ?_
    rintro e w' ⟨he | ⟨he, hO⟩, hb⟩
    · exact ⟨false, he, fun h => absurd h (by decide), hb⟩
    · exact ⟨true, he, fun _ => by rw [← hOP, ← hst]; exact hO, hb⟩)
  rw [hOP] at YES
  clear hOP
  obtain ⟨TX, hTX⟩ : ∃ TX, TB sh P most = TX := ⟨_, rfl⟩
  rw [hTX] at PL UP TS YES OWN
  clear hTX
  obtain ⟨s0, s1, s2, s3, s4, s5⟩ := sh
  simp only [Shp.val] at PL FB FO OWN ⊢
  simp only at YES
  clear SH SI hjw hn
  obtain ⟨W0, hW0⟩ : ∃ W0, (w.alloc (.cells #[.int .i64 s0, .int .i64 s1, .int .i64 s2, .int .i64 s3, .int .i64 s4, .int .i64 s5, .slice ao nw cap, .slice aoh P.nh caph, .slice aos P.ns caps, .int .i64 most] 28)).alloc (.cells #[.slice none 0 0, .slice none 0 0, .bool false] 32) = W0 := ⟨_, rfl⟩
  have b0 : Below w.heap.size w W0 := by rw [← hW0]; exact ((Below.refl _ w).alloc (Nat.le_refl _) _).alloc (by simp) _
  have sz0 : W0.heap.size = w.heap.size + 2 := by rw [← hW0]; simp
  have R0 : W0.rowIs w.heap.size 28 10 (lrow [.int .i64 s0, .int .i64 s1, .int .i64 s2, .int .i64 s3, .int .i64 s4, .int .i64 s5, .slice ao nw cap, .slice aoh P.nh caph, .slice aos P.ns caps, .int .i64 most]) := by rw [← hW0]; exact (rowL_alloc w [.int .i64 s0, .int .i64 s1, .int .i64 s2, .int .i64 s3, .int .i64 s4, .int .i64 s5, .slice ao nw cap, .slice aoh P.nh caph, .slice aos P.ns caps, .int .i64 most] _ rfl).alloc _
  have RT : W0.rowIs (w.heap.size + 1) 32 3 (lrow [.slice none 0 0, .slice none 0 0, .bool false]) := by
    rw [← hW0]
    have := rowL_alloc (w.alloc (.cells #[.int .i64 s0, .int .i64 s1, .int .i64 s2, .int .i64 s3, .int .i64 s4, .int .i64 s5, .slice ao nw cap, .slice aoh P.nh caph, .slice aos P.ns caps, .int .i64 most] 28)) [.slice none 0 0, .slice none 0 0, .bool false] 32 (n := 3) rfl
    rwa [World.size_alloc] at this
  have c0 : W0.cell? ⟨w.heap.size, 0, none⟩ = some (.int .i64 s0) := R0.cell (i := 0) (by omega)
  have c1 : W0.cell? ⟨w.heap.size, 1, none⟩ = some (.int .i64 s1) := R0.cell (i := 1) (by omega)
  have c2 : W0.cell? ⟨w.heap.size, 2, none⟩ = some (.int .i64 s2) := R0.cell (i := 2) (by omega)
  have c3 : W0.cell? ⟨w.heap.size, 3, none⟩ = some (.int .i64 s3) := R0.cell (i := 3) (by omega)
  have c4 : W0.cell? ⟨w.heap.size, 4, none⟩ = some (.int .i64 s4) := R0.cell (i := 4) (by omega)
  have c5 : W0.cell? ⟨w.heap.size, 5, none⟩ = some (.int .i64 s5) := R0.cell (i := 5) (by omega)
  have HR0 := hide R0
  have HRT := hide RT
  have HB0 := hide b0
  clear R0 RT b0
  go_enter Tryz.func6, Tryz.ntmps6
  by_cases hr : Shape.R5 s0 s1 s2 s3 s4
  rotate_left
  · have HF := hide (FB.out hr)
    clear FB FO PL OWN TS YES
    go_wp2_with fail
    refine (HF.out _).mono ?_
    rintro e w1 ⟨rfl, b1⟩
    have hs1 := b1.size
    have RT1 := HRT.out.of_block (b1.block (w.heap.size + 1) (by omega))
    have z0 : w1.cell? ⟨w.heap.size + 1, 0, none⟩ = some (.slice none 0 0) := RT1.cell (i := 0) (by omega)
    have z1 : w1.cell? ⟨w.heap.size + 1, 1, none⟩ = some (.slice none 0 0) := RT1.cell (i := 1) (by omega)
    have z2 : w1.cell? ⟨w.heap.size + 1, 2, none⟩ = some (.bool false) := RT1.cell (i := 2) (by omega)
    have y0 := RT1.frozen 0
    have y1 := RT1.frozen 1
    have y2 := RT1.frozen 2
    have tt := touch3 w1 (w.heap.size + 1) (.slice none 0 0) (.slice none 0 0) (.bool false)
    have FIN := hide ((HB0.out.trans (b1.mono (by omega))).trans (tt.below (fun k hk => by omega) (by have := HB0.out.size; omega)))
    clear b1 RT1 tt c0 c1 c2 c3 c4 c5 hW0
    go_wp2_with fail
    go_light
    refine bodyPost_ret (v := .tuple #[.agg #[.slice none 0 0, .slice none 0 0, .bool false], .slice none 0 0, .bool false]) ?_ rfl ⟨FIN.out, none, 0, 0, none, 0, 0, false, none, 0, 0, false, rfl, NO.out _ _⟩
    simp [results, Tryz.results6, go_sem, *]
  · have HF := hide (FO.out hr)
    have HP := hide (PL.out hr)
    have HY := hide (YES.out hr)
    clear FB FO PL YES
    go_wp2_with fail
    refine (HF.out _).mono ?_
    rintro e w3 ⟨g, rfl, RW, hg, b3⟩
    have hs3 := b3.size
    have S3 := hide RW.sees
    have B3 := hide (HB0.out.trans (b3.mono (by omega)))
    have R3 := HR0.out.of_block (b3.block w.heap.size (by omega))
    have RT3 := hide (HRT.out.of_block (b3.block (w.heap.size + 1) (by omega)))
    have HR3 := hide R3
    have d0 : w3.cell? ⟨w.heap.size, 0, none⟩ = some (.int .i64 s0) := R3.cell (i := 0) (by omega)
    have d1 : w3.cell? ⟨w.heap.size, 1, none⟩ = some (.int .i64 s1) := R3.cell (i := 1) (by omega)
    have d2 : w3.cell? ⟨w.heap.size, 2, none⟩ = some (.int .i64 s2) := R3.cell (i := 2) (by omega)
    have d3 : w3.cell? ⟨w.heap.size, 3, none⟩ = some (.int .i64 s3) := R3.cell (i := 3) (by omega)
    have d4 : w3.cell? ⟨w.heap.size, 4, none⟩ = some (.int .i64 s4) := R3.cell (i := 4) (by omega)
    have d5 : w3.cell? ⟨w.heap.size, 5, none⟩ = some (.int .i64 s5) := R3.cell (i := 5) (by omega)
    have d7 : w3.cell? ⟨w.heap.size, 7, none⟩ = some (.slice aoh P.nh caph) := R3.cell (i := 7) (by omega)
    have d8 : w3.cell? ⟨w.heap.size, 8, none⟩ = some (.slice aos P.ns caps) := R3.cell (i := 8) (by omega)
    have d9 : w3.cell? ⟨w.heap.size, 9, none⟩ = some (.int .i64 most) := R3.cell (i := 9) (by omega)
    clear b3 RW R3 c0 c1 c2 c3 c4 c5 hW0
    go_wp2_with fail
    refine (HP.out w3 B3.out _ _ S3.out).mono ?_
    rintro e w1 ⟨hb1, sa, k, sc, wa, n, wc, en, aa, m, ac, er, rfl, hS⟩
    have hs1 := hb1.size
    have RT1 := RT3.out.of_block (hb1.block (w.heap.size + 1) (by omega))
    have R1 := HR3.out.of_block (hb1.block w.heap.size (by omega))
    obtain ⟨W2, hW2⟩ : ∃ W2, w1.alloc (.cells #[.slice sa k sc, .slice wa n wc, .bool en] 32) = W2 := ⟨_, rfl⟩
    have R2 : W2.rowIs w1.heap.size 32 3 (lrow [.slice sa k sc, .slice wa n wc, .bool en]) := by rw [← hW2]; exact rowL_alloc w1 [.slice sa k sc, .slice wa n wc, .bool en] _ rfl
    have RT2 : W2.rowIs (w.heap.size + 1) 32 3 (lrow [.slice none 0 0, .slice none 0 0, .bool false]) := by rw [← hW2]; exact RT1.alloc _
    have RR2 : W2.rowIs w.heap.size 28 10 (lrow [.int .i64 s0, .int .i64 s1, .int .i64 s2, .int .i64 s3, .int .i64 s4, .int .i64 s5, .slice ao nw cap, .slice aoh P.nh caph, .slice aos P.ns caps, .int .i64 most]) := by rw [← hW2]; exact R1.alloc _
    have B12 : Below w1.heap.size w1 W2 := by rw [← hW2]; exact (Below.refl _ w1).alloc (Nat.le_refl _) _
    have B1 := B3.out.trans (hb1.mono B3.out.size)
    have B2 : Below w.heap.size w W2 := B1.trans (B12.mono B1.size)
    have T2 : Touch w1 W2 (fun k => k = w.heap.size + 1) := Touch.of_below B12 _
    have sz2 : W2.heap.size = w1.heap.size + 1 := by rw [← hW2]; simp
    have f7 : W2.cell? ⟨w.heap.size, 7, none⟩ = some (.slice aoh P.nh caph) := RR2.cell (i := 7) (by omega)
    have lw2 : w.heap.size < W2.heap.size := by omega
    have lr2 : w.heap.size + 1 < W2.heap.size := by omega
    unfold tv3
    by_cases her : er = 0
    · subst her
      obtain ⟨st, -, -, -, -, -, rfl, -⟩ := TS.out _ _ _ _ _ _ _ _ _ _ _ _ hS
      clear TS
      have OW := hide (fun (w2 : World) (hb : Below W2.heap.size W2 w2) => OWN.out w1 B1 sa k sc wa n wc en aa ac _ hS w2 (B12.trans (hb.mono (by omega))))
      have FIN := hide (fun (w2 w4 : World) (h2 : Below W2.heap.size W2 w2) (h4 : Touch w2 w4 (fun k => k = w.heap.size + 1)) => And.intro ((B2.trans (h2.mono B2.size)).trans (h4.below (fun k hk => by omega) (by have := h2.size; have := B2.size; omega))) (UP.out w3.heap.size w.heap.size (w.heap.size + 1) 0 sa k sc wa n wc en aa P.nh ac w1 w4 hS ((T2.trans (Touch.of_below h2 _)).trans' h4 (fun i _ h => h)) (by omega) (by omega)))
      have HR2 := hide R2
      have HRT2 := hide RT2
      have HRR2 := hide RR2
      clear hb1 hS RT1 R1 R2 RT2 RR2 B1 B2 B12 T2 d0 d1 d2 d3 d4 d5 d7 d8 d9 OWN UP HP HF
      go_upto_region 7 with (fail)
      clear f7 hW2
      obtain ⟨OK, hOK⟩ : ∃ OK : Bool → Prop, OK = fun v => (v = true → OP) := ⟨_, rfl⟩
      have OW2 := hide (show ∀ w2, Below W2.heap.size W2 w2 → Calls Tryz.prog 10 #[.agg #[.int .i64 s0, .int .i64 s1, .int .i64 s2, .int .i64 s3, .int .i64 s4, .int .i64 s5, .slice ao nw cap, .slice aoh P.nh caph, .slice aos P.ns caps, .int .i64 most], .slice aa P.nh ac] w2 fun e w' => ∃ v, e = .returned (.bool v) ∧ OK v ∧ Below w2.heap.size w2 w' from by rw [hOK]; exact OW.out)
      clear OW
      have OW := OW2
      clear OW2
      have KT := hide (show ∀ (n1 : Nat) (sv : Nat → Value) (w' : World), FC W2 (w.heap.size + 1) [.slice sa k sc, .slice wa n wc, .bool en] (.slice aa P.nh ac) OK n1 sv w' → w'.rangeAt w1.heap.size 0 [.slice sa k sc, .slice wa n wc, .bool en] ∧ w'.rangeAt w.heap.size 0 [.int .i64 s0, .int .i64 s1, .int .i64 s2, .int .i64 s3, .int .i64 s4, .int .i64 s5, .slice ao nw cap, .slice aoh P.nh caph, .slice aos P.ns caps, .int .i64 most] from fun n1 sv w' h => ⟨lrow_range (HR2.out.of_block (h.past (by omega) (by omega))), lrow_range (HRR2.out.of_block (h.past (by omega) (by omega)))⟩)
      have RTh := hide (show ∀ w' : World, Below W2.heap.size W2 w' → w'.there (w.heap.size + 1) 0 3 from fun w' h => there_row (HRT2.out.of_block (h.block _ (by omega))) (by decide))
      refine LtH.region2 (ks := [(0, 44), (1, 45), (2, 46), (3, 47)]) (vals := fun iv => match iv with | 0 => .agg #[.slice sa k sc, .slice wa n wc, .bool en] | 1 => .slice aa P.nh ac | 2 => .agg #[.int .i64 s0, .int .i64 s1, .int .i64 s2, .int .i64 s3, .int .i64 s4, .int .i64 s5, .slice ao nw cap, .slice aoh P.nh caph, .slice aos P.ns caps, .int .i64 most] | 3 => .slice aa P.nh ac | _ => undef) (xs := [48, 3, 4]) (WI := LtE.WI [4, 5, 6, 7] [] (FC W2 (w.heap.size + 1) [.slice sa k sc, .slice wa n wc, .bool en] (.slice aa P.nh ac) OK)) (by kernel_rfl) ?Agd ?Abk rfl ?Add ?Axx ?Alc ?Ast ?Ado ?Afi
      case Agd =>
        intro iq oq ho
        have hiq : iq < 8 := by have := (Array.getElem?_eq_some_iff.1 ho).1; simpa using this
        match iq, hiq with
        | 0, _ | 1, _ | 2, _ | 3, _ | 4, _ | 5, _ | 6, _ | 7, _ => injection ho with ho; subst ho; rfl
      case Abk =>
        intro iq oq ho
        have hiq : iq < 8 := by have := (Array.getElem?_eq_some_iff.1 ho).1; simpa using this
        match iq, hiq with
        | 0, _ | 1, _ | 2, _ | 3, _ | 4, _ | 5, _ | 6, _ | 7, _ => injection ho with ho; subst ho; simp [Region.binds]
      case Add =>
        intro kq hk
        have hk2 : kq < 49 := by
          simp [Lt.D] at hk
          omega
        exact hk2
      case Axx =>
        intro kq hk
        have hk2 : kq < 49 := by
          simp at hk
          omega
        exact hk2
      case Alc =>
        rintro L s1 s2 w1 hx ⟨⟨n1, h1, h2, h3⟩, h4⟩
        exact ⟨⟨n1, h1, h2, FC.local (hx 48 rfl) (hx 3 rfl) (hx 4 rfl) h3⟩, h4⟩
      case Ast => exact LtE.WI.start (show Below W2.heap.size W2 _ from (Below.refl _ W2).drew)
      case Ado =>
        intro iq oq ho
        have hiq : iq < 8 := by have := (Array.getElem?_eq_some_iff.1 ho).1; simpa using this
        match iq, hiq with
        | 0, _ => injection ho with ho; subst ho; exact LtE.read rfl rfl rfl (fun L a w' hI hL hq => Lt.ex_load_row (cs := [.slice sa k sc, .slice wa n wc, .bool en]) rfl (hI.fix 7 (Lt.notD rfl) rfl) (by obtain ⟨n1, hn1⟩ := hI.world.any; exact (KT.out n1 _ w' hn1).1) (by kernel_rfl) (by kernel_rfl))
        | 1, _ => injection ho with ho; subst ho; exact LtE.read rfl rfl rfl (fun L a w' hI hL hq => Lt.ex_move rfl (hI.fix 8 (Lt.notD rfl) rfl))
        | 2, _ => injection ho with ho; subst ho; exact LtE.read rfl rfl rfl (fun L a w' hI hL hq => Lt.ex_load_row (cs := [.int .i64 s0, .int .i64 s1, .int .i64 s2, .int .i64 s3, .int .i64 s4, .int .i64 s5, .slice ao nw cap, .slice aoh P.nh caph, .slice aos P.ns caps, .int .i64 most]) rfl (hI.fix 1 (Lt.notD rfl) rfl) (by obtain ⟨n1, hn1⟩ := hI.world.any; exact (KT.out n1 _ w' hn1).2) (by kernel_rfl) (by kernel_rfl))
        | 3, _ => injection ho with ho; subst ho; exact LtE.read rfl rfl rfl (fun L a w' hI hL hq => Lt.ex_move rfl (hI.fix 8 (Lt.notD rfl) rfl))
        | 4, _ => injection ho with ho; subst ho; exact LtE.call (m := 0) (args := fun _ => #[.agg #[.int .i64 s0, .int .i64 s1, .int .i64 s2, .int .i64 s3, .int .i64 s4, .int .i64 s5, .slice ao nw cap, .slice aoh P.nh caph, .slice aos P.ns caps, .int .i64 most], .slice aa P.nh ac]) (by decide) rfl rfl rfl rfl (fun L hq p hp e => by simp at hp) (fun L hq m1 j1 e1 _ => absurd e1 (by omega)) (fun L a w' hI hq hS => Lt.call2 rfl (hI.pure 2 _ _ rfl (hq ⟨2, .data⟩ (by simp) rfl)) (hI.pure 3 _ _ rfl (hq ⟨3, .data⟩ (by simp) rfl)) rfl (by simp [go_sem])) (fun s w' hS => (OW.out w' hS).mono (by rintro e w3 ⟨v, rfl, hv, hb3⟩; exact ⟨_, rfl, hS.trans (hb3.mono hS.size), v, by simp, hv⟩))
        | 5, _ => injection ho with ho; subst ho; exact LtE.store (m := 1) (by decide) rfl rfl rfl (fun L hq p hp e => by simp at hp) (fun L hq m1 j1 e1 hj => by (cases (show m1 = 0 from (by omega))); cases hj; exact hq ⟨4, .chain⟩ (by simp) rfl) (fun L a w' Kq hI hq hS hk => by obtain ⟨h2, hv⟩ := hS; refine wp_store_mid _ _ _ rfl (w.heap.size + 1) 0 #[.slice sa k sc, .slice wa n wc, .bool en] (hI.fix 2 (Lt.notD rfl) rfl) (hI.pure 0 _ _ rfl (hq ⟨0, .data⟩ (by simp) rfl)) (RTh.out w' h2) (by kernel_rfl) (by simp [Value.oneCell']) (hk _ _ ⟨⟨w', h2, touch_setCells _ _ _ _, World.rangeAt_setCells_same _ _ _ _ (RTh.out w' h2)⟩, hv⟩))
        | 6, _ => injection ho with ho; subst ho; exact LtE.link (m := 2) (by decide) rfl rfl rfl rfl (fun L hq p hp e => by simp at hp) (fun L hq m1 j1 e1 hj => by (cases (show m1 = 1 from (by omega))); cases hj; exact hq ⟨5, .chain⟩ (by simp) rfl) (fun L a w' Kq hI hq hS hk => Lt.wp_value (Lt.ex_assign rfl (hI.pure 1 _ _ rfl (hq ⟨1, .data⟩ (by simp) rfl))) (hk _ _ ⟨hS.1, by simp, by simpa using hS.2⟩))
        | 7, _ => injection ho with ho; subst ho; exact LtE.link (m := 3) (by decide) rfl rfl rfl rfl (fun L hq p hp e => by simp at hp) (fun L hq m1 j1 e1 hj => by (cases (show m1 = 2 from (by omega))); cases hj; exact hq ⟨6, .chain⟩ (by simp) rfl) (fun L a w' Kq hI hq hS hk => by obtain ⟨h1, h3, v, h48, hv⟩ := hS; exact Lt.wp_value (Lt.ex_assign rfl h48) (hk _ _ ⟨h1, by simpa using h3, v, by simp, hv⟩))
      case Afi =>
        intro L a' w' hI hall
        obtain ⟨⟨w4, h2, h3, h6⟩, e3, v, e4, hv⟩ := hI.world.done (fun i hi => hall i (by simp at hi ⊢; omega))
        have hfr := LtH.frame hI [44, 45, 46, 47, 48, 3, 4] rfl rfl (fun x hx => by simp at hx ⊢; omega)
        obtain ⟨t44, e44⟩ : ∃ t, a'.eval (.tmp 44) = t := ⟨_, rfl⟩
        obtain ⟨t45, e45⟩ : ∃ t, a'.eval (.tmp 45) = t := ⟨_, rfl⟩
        obtain ⟨t46, e46⟩ : ∃ t, a'.eval (.tmp 46) = t := ⟨_, rfl⟩
        obtain ⟨t47, e47⟩ : ∃ t, a'.eval (.tmp 47) = t := ⟨_, rfl⟩
        obtain ⟨t48, e48⟩ : ∃ t, a'.eval (.tmp 48) = t := ⟨_, rfl⟩
        simp only at e3 e4
        rw [hfr]
        simp only [LtH.lay, List.foldl, e44, e45, e46, e47, e48, e3, e4]
        have hF := FIN.out w4 w' h2 h3
        rw [hOK] at hv
        have HF2 := hide (And.intro hF.1 (HY.out _ sa k sc wa n wc en aa P.nh ac v w' hF.2 hv))
        have q0 : w'.cell? ⟨w.heap.size + 1, 0, none⟩ = some (.slice sa k sc) := by have := h6 0 _ rfl; simpa using this
        have q1 : w'.cell? ⟨w.heap.size + 1, 1, none⟩ = some (.slice wa n wc) := by have := h6 1 _ rfl; simpa using this
        have q2 : w'.cell? ⟨w.heap.size + 1, 2, none⟩ = some (.bool en) := by have := h6 2 _ rfl; simpa using this
        clear hfr hI hall h2 h3 h6 e44 e45 e46 e47 e48 hF hv KT RTh OW HY FIN
        simp only [Act.put, List.setIfInBounds_toArray, List.set_cons_succ, List.set_cons_zero]
        go_wp2_with fail
        refine bodyPost_ret (v := .tuple #[.agg #[.slice sa k sc, .slice wa n wc, .bool en], .slice aa P.nh ac, .bool v]) ?res rfl ⟨HF2.out.1, sa, k, sc, wa, n, wc, en, aa, P.nh, ac, v, rfl, HF2.out.2⟩
        case res => simp [results, Tryz.results6, go_sem, *]
    · have her' : (er != 0) = true := by simpa using her
      clear TS OWN HY
      have z0 : W2.cell? ⟨w.heap.size + 1, 0, none⟩ = some (.slice none 0 0) := RT2.cell (i := 0) (by omega)
      have z1 : W2.cell? ⟨w.heap.size + 1, 1, none⟩ = some (.slice none 0 0) := RT2.cell (i := 1) (by omega)
      have z2 : W2.cell? ⟨w.heap.size + 1, 2, none⟩ = some (.bool false) := RT2.cell (i := 2) (by omega)
      have y0 := RT2.frozen 0
      have y1 := RT2.frozen 1
      have y2 := RT2.frozen 2
      have tt := touch3 W2 (w.heap.size + 1) (.slice none 0 0) (.slice none 0 0) (.bool false)
      have FIN := hide (B2.trans (tt.below (fun k hk => by omega) (by have := B3.out.size; omega)))
      clear hb1 hS RT1 R1 R2 RT2 RR2 B1 B2 B12 T2 tt d0 d1 d2 d3 d4 d5 d7 d8 d9 UP HP HF
      go_wp2_with fail
      go_light
      refine bodyPost_ret (v := .tuple #[.agg #[.slice none 0 0, .slice none 0 0, .bool false], .slice none 0 0, .bool false]) ?_ rfl ⟨FIN.out, none, 0, 0, none, 0, 0, false, none, 0, 0, false, rfl, NO.out _ _⟩
      simp [results, Tryz.results6, go_sem, *]
end Rom
end
end Go.Proofs.YtidihnnmdmlgfaaGreat
