/-
  Lemmas: RoomNW.
-/
import Derived.Test.YtidihnnmdmlgfaaGreatTq53
import Derived.Deep.CutRange
import Derived.Deep.CutBlock
import Derived.Deep.QuietTactic
namespace Go.Proofs.YtidihnnmdmlgfaaGreat
set_option maxHeartbeats 8000000
open Go.RowKit
set_option linter.unusedVariables false
set_option linter.unusedSimpArgs false
set_option linter.unnecessarySimpa false
set_option maxRecDepth 20000
section
namespace Rom
open Hp
theorem done_le' {sh : Shp} {P : Par} {f : Nat → Int} : ∀ m h, h < P.nh → (runSt P (st0 (kRom false sh) P f) m).done h ≤ P.jn h
  | 0, h, hh => Nat.zero_le _
  | m + 1, h, hh => by
    have ih := done_le' (sh := sh) (P := P) (f := f) m h hh
    rcases run_succ_cases P (st0 (kRom false sh) P f) rfl m with ⟨e, _⟩ | ⟨h', _, _, h3, _, e⟩
    · rw [e]; exact ih
    · rw [e]
      by_cases eh : h = h'
      · subst eh
        simp only [stepSt]
        split
        · rw [upd_same]; omega
        · exact ih
      · simp only [stepSt]
        split
        · rw [upd_other _ _ eh]; exact ih
        · exact ih
theorem tb_end {sh : Shp} {P : Par} {most : Int} {base : Nat} {sa wa aa : Option Addr} {k sc n wc m ac : Nat} {en : Bool} {w' : World} (h : TB sh P most base 0 sa k sc wa n wc en aa m ac w') : en = decide (cnt ((runSt P (st0 (kRom false sh) P (ff sh)) most.toNat).going P) P.nh = 0) := by
  obtain ⟨hF, hok, blk, c, g, sv, hv, H, G, GS, R, hg, hne⟩ := h rfl
  obtain ⟨sa', sc', rfl⟩ := GS.isSlice'
  simp only [tv3, Value.tuple.injEq] at hv
  simp at hv
  obtain ⟨⟨_, _, e⟩, _⟩ := hv
  rw [e]
theorem ch_there {sh : Shp} {f : Nat → Int} : ∀ {C : List Int} {p : Int}, Ch sh f p C → ∀ x, x ∈ C → there sh x
  | [], _, _, x, hx => by simp at hx
  | y :: C, _, h, x, hx => by
    rcases List.mem_cons.1 hx with rfl | hx
    · exact h.2.1
    · exact ch_there h.2.2 x hx
theorem infoBn : (Tryz.prog.info? 4).map (fun i => (i.zero.map Value.cells, i.size, i.bytes)) = some (some #[.bool false], 1, 1) := by kernel_rfl
theorem sm_mono {f : Nat → Nat} {n : Nat} : ∀ m, n ≤ m → sm f n ≤ sm f m
  | 0, h => by have : n = 0 := by omega
               subst this; exact Nat.le_refl _
  | m + 1, h => by
    rcases Nat.lt_or_ge n (m + 1) with l | l
    · have := sm_mono (f := f) (n := n) m (by omega)
      show sm f n ≤ sm f m + f m
      omega
    · have : n = m + 1 := by omega
      subst this; exact Nat.le_refl _
structure FN (sh : Shp) (P : Par) (wa : Option Addr) (n : Nat) (aa : Option Addr) (m : Nat) (AN : Nat → Nat → Ans) (f : Nat → Int) (C : List Int) (w1 : World) : Prop where
  h5 : Shape.R5 sh.a sh.b sh.c sh.d sh.e
  m : m = P.nh
  nh : P.nh ≤ 8
  jn : ∀ h, h < P.nh → P.jn h ≤ 256
  kd : ∀ h, h < P.nh → ∀ j, j < P.jn h → (P.jb h j).kind = 1 ∨ (P.jb h j).kind = 2
  an : SeesA w1 w1.heap.size aa P.nh P.jn AN
  wd : Sees w1 w1.heap.size wa n f
  nn : (n : Int) = all0 sh ∧ 13 ≤ n
  ch : Ch sh f (idx (f 1)) C
  nod : C.Nodup
  us : ∀ x, there sh x → (x ∈ C → usd sh f x = 0) ∧ (¬ x ∈ C → usd sh f x = 1)
  cn : C.length + tot mkJ P P.jn AN = sh.a.toNat + tot bkJ P P.jn AN
  f4 : f 4 = (tot mkJ P P.jn AN : Nat) ∧ f 5 = (tot bkJ P P.jn AN : Nat)
  le : tot mkJ P P.jn AN ≤ 65536 ∧ tot bkJ P P.jn AN ≤ 65536
  fb : ∀ i, i < n → 0 ≤ f i ∧ f i < 18446744073709551616
theorem tot_cong {g : Jb → Ans → Nat} {P : Par} {d d' : Nat → Nat} {a : Nat → Nat → Ans} (h : ∀ h, h < P.nh → d h = d' h) : tot g P d a = tot g P d' a := sm_congr _ (fun i hi => by rw [h i hi])
theorem fn_of {sh : Shp} {P : Par} {most : Int} {base : Nat} {sa wa aa : Option Addr} {k sc n wc m ac : Nat} {w1 : World} (hn : Shape.R5 sh.a sh.b sh.c sh.d sh.e → (P.n : Int) = sizeOf sh) (hjw : ∀ h, h < P.nh → ∀ j, j < P.jn h → (P.jb h j).wf) (h : FT sh P most base sa k sc wa n wc true aa m ac true w1) : ∃ AN f C, FN sh P wa n aa m AN f C w1 := by
  obtain ⟨h5, T, HO⟩ := h rfl
  have hE := tb_end T
  obtain ⟨st, hst, hF, hok, _, hnn, hm, _, SW, SA⟩ := tb_sees T
  have hM : most.toNat ≤ 65536 := by have := hF.2.2.2; omega
  obtain ⟨C, pl, I⟩ := inv_run h5 (hn h5) hjw hok hM HO most.toNat (Nat.le_refl _)
  have W := (wf_run h5 (fun i _ => ff_bd h5 i) hjw hok most.toNat).1
  have hd1 : ∀ h, h < P.nh → (runSt P (st0 (kRom false sh) P (ff sh)) most.toNat).done h = P.jn h := fun h hh => by
    have h1 := done_le' (sh := sh) (P := P) (f := ff sh) most.toNat h hh
    have h2 := cnt_zero (of_decide_eq_true hE.symm) h hh
    simp only [St.going, decide_eq_false_iff_not] at h2
    omega
  have hkk := (runSt_k P (st0 (kRom false sh) P (ff sh)) rfl most.toNat).1
  rw [← hst] at I hkk W hd1
  have hnl := hF.2.1
  rw [hm] at SA
  have no : ∀ h, h < P.nh → ¬ st.done h < P.jn h := fun h hh hl => by have := hd1 h hh; omega
  have u0 : ∀ g, und g P st.done st.cur = 0 := fun g => sm_zero _ (fun i hi => if_neg (no i hi))
  have cn := I.cn
  rw [u0, u0, tot_cong hd1, tot_cong hd1] at cn
  have c45 := I.c45
  rw [tot_cong hd1, tot_cong hd1] at c45
  have ck := I.ck
  rw [tot_cong hd1, tot_cong hd1] at ck
  obtain ⟨want, hw1, hw2, _⟩ := size_nat h5
  have hsz := hn h5
  have ha : all0 sh = sizeOf sh := rfl
  refine ⟨st.ans, st.f, C, h5, hm, by have : ¬ 8 < P.nh := fun h => hnl (.inl h); omega, fun h hh => by have : ¬ 256 < P.jn h := fun h2 => hnl (.inr ⟨h, hh, h2⟩); omega, fun h hh j hj => (err_two (h := h) (hok h hh j hj)).imp id (fun h => h.1), fun h hh => ?_, SW, ⟨by rw [hnn]; omega, by omega⟩, I.chain, I.nod, fun x hx => ⟨fun hm => (I.us x hx).1 (.inl ((I.free x).1 hm).2), fun hm => ?_⟩, by omega, c45, ⟨by omega, by omega⟩, fun i hi => ?_⟩
  · have := SA h hh
    rw [hd1 h hh] at this
    exact this
  · refine (I.us x hx).2 ?_
    cases e : pl x with
    | free => exact absurd ((I.free x).2 ⟨hx, e⟩) hm
    | mk h => have := I.mak h x hx e; exact absurd this.2.1 (no h this.1)
    | dy h => have := I.dy h x hx e; exact absurd this.2.1 (no h this.1)
    | own h => exact ⟨h, rfl⟩
  · have := W i (by omega)
    omega
variable {w : World} {ao aoh aos : Option Addr} {nw cap caph caps : Nat} {P : Par} {most : Int} {sh : Shp}
theorem nothing_walk (hn : Shape.R5 sh.a sh.b sh.c sh.d sh.e → (P.n : Int) = sizeOf sh) (SH : SeesH w w.heap.size aoh P.nh P.jn P.jb) (hn63 : P.nh ≤ 9223372036854775807) (SI : SeesI w w.heap.size aos P.ns P.sched) (hjw : ∀ h, h < P.nh → ∀ j, j < P.jn h → (P.jb h j).wf) :
    Calls Tryz.prog 4 #[.agg #[.int .i64 sh.a, .int .i64 sh.b, .int .i64 sh.c, .int .i64 sh.d, .int .i64 sh.e, .int .i64 sh.f, .slice ao nw cap, .slice aoh P.nh caph, .slice aos P.ns caps, .int .i64 most]] w fun e w' => e = .returned (.bool true) ∧ Below w.heap.size w w' := by
  have FR := hide (fun (w1 : World) (B1 : Below w.heap.size w w1) => fresh_any (sh := sh) (most := most) (ao := ao) (nw := nw) (cap := cap) (caph := caph) (caps := caps) hn ((SH.below B1 (Nat.le_refl _)).up B1.size) hn63 ((SI.below B1 (Nat.le_refl _)).up B1.size) hjw)
  have FT' := hide (fun (base : Nat) sa k sc wa n wc aa m ac (w1 : World) (h : FT sh P most base sa k sc wa n wc true aa m ac true w1) => fn_of hn hjw h)
  have RW := hide (fun (w1 : World) (B1 : Below w.heap.size w w1) aa AN (SA : SeesA w1 w1.heap.size aa P.nh P.jn AN) (i : Nat) (hi : i < P.nh) => own_rows ((SH.below B1 (Nat.le_refl _)).up B1.size) SA hi)
  have OB := hide (fun (h5 : Shape.R5 sh.a sh.b sh.c sh.d sh.e) (x : Int) (hx : there sh x) (w1 : World) => object_yes h5 hx w1)
  have HB := hide (fun (h5 : Shape.R5 sh.a sh.b sh.c sh.d sh.e) (x : Int) (hx : there sh x) => show 8 ≤ headAt sh x ∧ headAt sh x + 1 < all0 sh ∧ linkAt sh x = headAt sh x + 1 from ⟨(head_bd h5 hx).1, by have := (link_nat h5 hx).2.2; have := (head_bd h5 hx).2.2; omega, (head_bd h5 hx).2.2⟩)
  obtain ⟨FX, hFX⟩ : ∃ FX, FT sh P most = FX := ⟨_, rfl⟩
  rw [hFX] at FR FT'
  clear hFX
  obtain ⟨s0, s1, s2, s3, s4, s5⟩ := sh
  simp only [Shp.val] at FR FT' OB ⊢
  clear SH SI hjw hn
  obtain ⟨W0, hW0⟩ : ∃ W0, w.alloc (.cells #[.int .i64 s0, .int .i64 s1, .int .i64 s2, .int .i64 s3, .int .i64 s4, .int .i64 s5, .slice ao nw cap, .slice aoh P.nh caph, .slice aos P.ns caps, .int .i64 most] 28) = W0 := ⟨_, rfl⟩
  have b0 : Below w.heap.size w W0 := by rw [← hW0]; exact (Below.refl _ w).alloc (Nat.le_refl _) _
  have R0 : W0.rowIs w.heap.size 28 10 (lrow [.int .i64 s0, .int .i64 s1, .int .i64 s2, .int .i64 s3, .int .i64 s4, .int .i64 s5, .slice ao nw cap, .slice aoh P.nh caph, .slice aos P.ns caps, .int .i64 most]) := by rw [← hW0]; exact rowL_alloc w [.int .i64 s0, .int .i64 s1, .int .i64 s2, .int .i64 s3, .int .i64 s4, .int .i64 s5, .slice ao nw cap, .slice aoh P.nh caph, .slice aos P.ns caps, .int .i64 most] _ rfl
  have keep : Hid (∀ w' : World, Below W0.heap.size W0 w' → Below w.heap.size w w' ∧ w.heap.size < w'.heap.size ∧ w'.cell? ⟨w.heap.size, 0, none⟩ = some (.int .i64 s0) ∧ w'.cell? ⟨w.heap.size, 1, none⟩ = some (.int .i64 s1) ∧ w'.cell? ⟨w.heap.size, 2, none⟩ = some (.int .i64 s2) ∧ w'.cell? ⟨w.heap.size, 3, none⟩ = some (.int .i64 s3) ∧ w'.cell? ⟨w.heap.size, 4, none⟩ = some (.int .i64 s4) ∧ w'.cell? ⟨w.heap.size, 5, none⟩ = some (.int .i64 s5) ∧ w'.cell? ⟨w.heap.size, 6, none⟩ = some (.slice ao nw cap) ∧ w'.cell? ⟨w.heap.size, 7, none⟩ = some (.slice aoh P.nh caph) ∧ w'.cell? ⟨w.heap.size, 8, none⟩ = some (.slice aos P.ns caps) ∧ w'.cell? ⟨w.heap.size, 9, none⟩ = some (.int .i64 most)) := fun w' hb => by
    have r := R0.of_block (hb.block w.heap.size R0.lt)
    exact ⟨b0.trans (hb.mono b0.size), r.lt, r.cell (i := 0) (by decide), r.cell (i := 1) (by decide), r.cell (i := 2) (by decide), r.cell (i := 3) (by decide), r.cell (i := 4) (by decide), r.cell (i := 5) (by decide), r.cell (i := 6) (by decide), r.cell (i := 7) (by decide), r.cell (i := 8) (by decide), r.cell (i := 9) (by decide)⟩
  have sz0 : W0.heap.size = w.heap.size + 1 := by rw [← hW0]; simp
  clear b0 R0
  go_enter Tryz.func4, Tryz.ntmps4
  go_wp2_with fail
  refine (alive_any W0).mono ?_
  rintro e w1 ⟨rfl, hb1⟩
  obtain ⟨bw1, l1, c0, c1, c2, c3, c4, c5, c6, c7, c8, c9⟩ := keep.out w1 hb1
  have HB1 := hide hb1
  have BW1 := hide bw1
  have hs1 := hb1.size
  clear hb1 bw1 hW0
  go_wp2_with fail
  refine (FR.out w1 BW1.out).mono ?_
  rintro e w2 ⟨hb2, sa, k0, sc, wa, n0, wc0, en, aa, m, ac, ok, rfl, hT⟩
  have B2 := hide (HB1.out.trans (hb2.mono hs1))
  have hs2 := hb2.size
  clear c0 c1 c2 c3 c4 c5 c6 c7 c8 c9 FR
  obtain ⟨W3, hW3⟩ : ∃ W3, w2.alloc (.cells #[.slice sa k0 sc, .slice wa n0 wc0, .bool en] 32) = W3 := ⟨_, rfl⟩
  have B23 : Below w2.heap.size w2 W3 := by rw [← hW3]; exact (Below.refl _ w2).alloc (Nat.le_refl _) _
  have HB03 := hide (B2.out.trans (B23.mono (Nat.le_trans hs1 hs2)))
  have R3 : W3.rowIs w2.heap.size 32 3 (lrow [.slice sa k0 sc, .slice wa n0 wc0, .bool en]) := by rw [← hW3]; exact rowL_alloc w2 [.slice sa k0 sc, .slice wa n0 wc0, .bool en] _ rfl
  have t2 : W3.cell? ⟨w2.heap.size, 2, none⟩ = some (.bool en) := R3.cell (i := 2) (by decide)
  have lt3 := R3.lt
  cases ok with
  | false =>
    have BW3 := hide (keep.out W3 HB03.out).1
    clear hb2 hT B23 R3 t2
    go_wp2_with fail
    go_ret
    exact ⟨rfl, BW3.out⟩
  | true =>
    have BW3 := hide (keep.out W3 HB03.out).1
    go_upto_region 4 with (fail)
    cases en with
    | false =>
      clear hb2 hT B23 R3 hW3
      go_wp2_with fail
      go_ret
      exact ⟨rfl, BW3.out⟩
    | true =>
      obtain ⟨AN, f, C, E⟩ := FT'.out _ _ _ _ _ _ _ _ _ _ _ hT
      obtain ⟨o, ho⟩ : ∃ o : Nat, s0 = (o : Int) := ⟨s0.toNat, by have := E.h5.1.1; simp only at this; omega⟩
      subst ho
      obtain rfl := E.m
      have ho64 : 1 ≤ o ∧ o ≤ 64 := by have := E.h5.1; simp only at this; omega
      have hnh := E.nh
      have hn13 := E.nn.2
      have HE := hide E
      have RA := hide (fun (i : Nat) (hi : i < P.nh) => RW.out W3 (keep.out W3 HB03.out).1 aa AN ((E.an.below B23 (Nat.le_refl _)).mono B23.size) i hi)
      have SW := hide (fun (wr : World) (hb : Below W3.heap.size W3 wr) (i : Nat) (hi : i < n0) => show ∃ b off, wa = some ⟨b, off, none⟩ ∧ b < wr.heap.size ∧ wr.cell? ⟨b, off + i, none⟩ = some (.int .u64 (f i)) from by
        obtain ⟨b, off, e, lb, c⟩ := E.wd i hi
        have hb' := B23.trans (hb.mono B23.size)
        exact ⟨b, off, e, Nat.lt_of_lt_of_le lb hb'.size, (hb'.cell (p := ⟨b, off + i, none⟩) lb).trans c⟩)
      have KP := hide (fun (wx : World) (hb : Below W3.heap.size W3 wx) => And.intro (keep.out wx (HB03.out.trans (hb.mono HB03.out.size))) (show wx.cell? ⟨w2.heap.size, 1, none⟩ = some (.slice wa n0 wc0) ∧ w2.heap.size < wx.heap.size from by
        have r := R3.of_block (hb.block w2.heap.size R3.lt)
        exact ⟨r.cell (i := 1) (by decide), r.lt⟩))
      have hmk : ∀ W : World, (Instr.makeSlice 45 (.int .i64 ((o : Int) + 1)) (.int .i64 ((o : Int) + 1))).run Tryz.prog W = .ok (.slice (some ⟨W.heap.size, 0, none⟩) (o + 1) (o + 1)) (W.alloc (.cells (madeCells #[.bool false] (o + 1)) 4)) := fun W => by
        have := Shape.run_make_z (P := Tryz.prog) 45 4 _ 1 1 Tryz.underlying45 infoBn (o + 1) (by omega) (by omega) W
        simpa using this
      have HMK := hide hmk
      have HOB := hide (fun x hx w1 => OB.out E.h5 x hx w1)
      have HHB := hide (fun x hx => HB.out E.h5 x hx)
      clear hb2 hT B23 E FT' RW R3 OB HB hmk hW3 BW3
      go_wp2_with fail
      clear t2
      go_loopw [6, 7, 8] (fun v6 v7 v8 wr => ∃ h : Nat, h ≤ P.nh ∧ v8 = .int .i64 (h : Int) ∧ v6 = .int .i64 (sm (fun h => sm (fun j => mkJ (P.jb h j) (AN h j)) (P.jn h)) h : Nat) ∧ v7 = .int .i64 (sm (fun h => sm (fun j => bkJ (P.jb h j) (AN h j)) (P.jn h)) h : Nat) ∧ wr = W3) (fun _ _ v8 _ => P.nh - (intOf v8).toNat)
      case atStart => exact ⟨0, Nat.zero_le _, rfl, rfl, rfl, rfl⟩
      case round =>
        obtain ⟨h, hh, rfl, rfl, rfl, hwr⟩ := hrel
        have hwr' := hwr.symm
        clear hwr
        subst hwr'
        by_cases hlt : h < P.nh
        · have hlt' : (h : Int) < (P.nh : Int) := by omega
          have HGI := hide (meas_o hlt)
          obtain ⟨bh, oh, av, cv, ba, oa, bv, ca, rfl, rfl, rr⟩ := RA.out h hlt
          obtain ⟨d1, d2, la1, la2, J, A⟩ := rr W3 (Below.refl _ _)
          have J' := hide J
          have A' := hide A
          have HKD := hide (HE.out.kd h hlt)
          have HLE := hide (show sm (fun h => sm (fun j => mkJ (P.jb h j) (AN h j)) (P.jn h)) (h + 1) ≤ 65536 ∧ sm (fun h => sm (fun j => bkJ (P.jb h j) (AN h j)) (P.jn h)) (h + 1) ≤ 65536 from ⟨Nat.le_trans (sm_mono _ hlt) HE.out.le.1, Nat.le_trans (sm_mono _ hlt) HE.out.le.2⟩)
          have c7 := (KP.out W3 (Below.refl _ _)).1.2.2.2.2.2.2.2.2.2.1
          have l7 := (KP.out W3 (Below.refl _ _)).1.2.1
          have h256 := HE.out.jn h hlt
          clear rr J A
          obtain ⟨sA, hsA⟩ : ∃ s, sm (fun h => sm (fun j => mkJ (P.jb h j) (AN h j)) (P.jn h)) h = s := ⟨_, rfl⟩
          obtain ⟨sB, hsB⟩ : ∃ s, sm (fun h => sm (fun j => bkJ (P.jb h j) (AN h j)) (P.jn h)) h = s := ⟨_, rfl⟩
          have HSA := hide hsA
          have HSB := hide hsB
          rw [hsA, hsB]
          clear hsA hsB
          go_wp2_with fail
          go_loopw [6, 7, 9] (fun v6 v7 v9 w2 => ∃ k : Nat, k ≤ P.jn h ∧ v9 = .int .i64 (k : Int) ∧ v6 = .int .i64 ((sA + sm (fun j => mkJ (P.jb h j) (AN h j)) k : Nat) : Int) ∧ v7 = .int .i64 ((sB + sm (fun j => bkJ (P.jb h j) (AN h j)) k : Nat) : Int) ∧ w2 = W3) (fun _ _ v9 _ => P.jn h - (intOf v9).toNat)
          case atStart => exact ⟨0, Nat.zero_le _, rfl, rfl, rfl, rfl⟩
          case round =>
            obtain ⟨k, hk, rfl, rfl, rfl, hwr⟩ := hrel
            have hwr' := hwr.symm
            clear hwr
            subst hwr'
            by_cases hlt2 : k < P.jn h
            · have hlt2' : (k : Int) < (P.jn h : Int) := by omega
              have HGK := hide (meas_o hlt2)
              obtain ⟨bj, oj, rfl, lj, cj⟩ := J'.out k hlt2
              obtain ⟨bx, ox, rfl, lx, x0, x1⟩ := A'.out k hlt2
              have j0 := cj 0 (by omega)
              rw [Nat.add_zero] at j0
              have hkd := HKD.out k hlt2
              have h1 := HLE.out
              have m1 := sm_mono (f := fun j => mkJ (P.jb h j) (AN h j)) (n := k + 1) (P.jn h) hlt2
              have m2 := sm_mono (f := fun j => bkJ (P.jb h j) (AN h j)) (n := k + 1) (P.jn h) hlt2
              have e1 : sm (fun j => mkJ (P.jb h j) (AN h j)) (k + 1) = sm (fun j => mkJ (P.jb h j) (AN h j)) k + mkJ (P.jb h k) (AN h k) := rfl
              have e2 : sm (fun j => bkJ (P.jb h j) (AN h j)) (k + 1) = sm (fun j => bkJ (P.jb h j) (AN h j)) k + bkJ (P.jb h k) (AN h k) := rfl
              have f1 : sm (fun h => sm (fun j => mkJ (P.jb h j) (AN h j)) (P.jn h)) (h + 1) = sA + sm (fun j => mkJ (P.jb h j) (AN h j)) (P.jn h) := by rw [← HSA.out]; rfl
              have f2 : sm (fun h => sm (fun j => bkJ (P.jb h j) (AN h j)) (P.jn h)) (h + 1) = sB + sm (fun j => bkJ (P.jb h j) (AN h j)) (P.jn h) := by rw [← HSB.out]; rfl
              have b1 : sA + sm (fun j => mkJ (P.jb h j) (AN h j)) k ≤ 65536 := by omega
              have b2 : sB + sm (fun j => bkJ (P.jb h j) (AN h j)) k ≤ 65536 := by omega
              have HE1 := hide e1
              have HE2 := hide e2
              clear m1 m2 e1 e2 f1 f2 h1 cj x1
              obtain ⟨tA, htA⟩ : ∃ t, sA + sm (fun j => mkJ (P.jb h j) (AN h j)) k = t := ⟨_, rfl⟩
              obtain ⟨tB, htB⟩ : ∃ t, sB + sm (fun j => bkJ (P.jb h j) (AN h j)) k = t := ⟨_, rfl⟩
              rw [htA] at b1 ⊢
              rw [htB] at b2 ⊢
              have NA := hide (show ∀ q, mkJ (P.jb h k) (AN h k) = q → sA + sm (fun j => mkJ (P.jb h j) (AN h j)) (k + 1) = tA + q from fun q hq => by rw [HE1.out, hq]; omega)
              have NB := hide (show ∀ q, bkJ (P.jb h k) (AN h k) = q → sB + sm (fun j => bkJ (P.jb h j) (AN h j)) (k + 1) = tB + q from fun q hq => by rw [HE2.out, hq]; omega)
              clear htA htB HE1 HE2
              have HAk := hide (show mkJ (P.jb h k) (AN h k) = (if (P.jb h k).kind = 1 ∧ (AN h k).ok = true then 1 else 0) ∧ bkJ (P.jb h k) (AN h k) = (if (P.jb h k).kind = 1 then 0 else 1) from ⟨rfl, rfl⟩)
              simp only [Jb.cell] at j0
              rcases hkd with hk1 | hk1
              · rw [hk1] at j0
                cases hok : (AN h k).ok with
                | false =>
                  rw [hok] at x0
                  have N1 := hide (NA.out 0 (by rw [HAk.out.1, hok]; simp))
                  have N2 := hide (NB.out 0 (by rw [HAk.out.2, if_pos hk1]))
                  go_wp2_with fail
                  go_roundw
                  case rel => exact ⟨k + 1, hlt2, by go_num, by rw [N1.out]; rfl, by rw [N2.out]; rfl, trivial⟩
                  case measure => exact HGK.out
                | true =>
                  rw [hok] at x0
                  have N1 := hide (NA.out 1 (by rw [HAk.out.1, hok, hk1]; simp))
                  have N2 := hide (NB.out 0 (by rw [HAk.out.2, if_pos hk1]))
                  go_wp2_with fail
                  go_roundw
                  case rel => exact ⟨k + 1, hlt2, by go_num, by rw [N1.out]; go_num, by rw [N2.out]; rfl, trivial⟩
                  case measure => exact HGK.out
              · rw [hk1] at j0
                have N1 := hide (NA.out 0 (by rw [HAk.out.1, hk1]; simp))
                have N2 := hide (NB.out 1 (by rw [HAk.out.2, hk1]; simp))
                go_wp2_with fail
                go_roundw
                case rel => exact ⟨k + 1, hlt2, by go_num, by rw [N1.out]; rfl, by rw [N2.out]; go_num, trivial⟩
                case measure => exact HGK.out
            · have hlt2' : ¬ (k : Int) < (P.jn h : Int) := by omega
              obtain rfl : k = P.jn h := by omega
              go_wp2_with fail
              go_roundw
              case rel => exact ⟨h + 1, hlt, by go_num, by rw [← HSA.out]; rfl, by rw [← HSB.out]; rfl, trivial⟩
              case measure => exact HGI.out
        · have hlt' : ¬ (h : Int) < (P.nh : Int) := by omega
          obtain rfl : h = P.nh := by omega
          obtain ⟨⟨bw3, l3, c0, c1, c2, c3, c4, c5, c6, c7, c8, c9⟩, t1, lt1⟩ := KP.out W3 (Below.refl _ _)
          have hmk := HMK.out
          obtain ⟨A, hA⟩ : ∃ A, sm (fun h => sm (fun j => mkJ (P.jb h j) (AN h j)) (P.jn h)) P.nh = A := ⟨_, rfl⟩
          obtain ⟨B, hB⟩ : ∃ B, sm (fun h => sm (fun j => bkJ (P.jb h j) (AN h j)) (P.jn h)) P.nh = B := ⟨_, rfl⟩
          have HABC := hide (show C.length + A = o + B ∧ f 4 = (A : Int) ∧ f 5 = (B : Int) ∧ A ≤ 65536 ∧ B ≤ 65536 from by
            rw [← hA, ← hB]
            have c := HE.out.cn
            have t : (Shp.mk (o : Int) s1 s2 s3 s4 s5).a.toNat = o := by simp
            rw [t] at c
            exact ⟨c, HE.out.f4.1, HE.out.f4.2, HE.out.le.1, HE.out.le.2⟩)
          rw [hA, hB]
          clear hA hB bw3 RA
          obtain ⟨bw, ow, rfl, lbw, cw1⟩ := SW.out W3 (Below.refl _ _) 1 (by omega)
          have hf1 := HE.out.fb 1 (by omega)
          have hix : wrap64 (bits .and .u64 (f 1) 4294967295) = idx (f 1) := by rw [wrap64_low _ hf1.1 hf1.2]; rfl
          go_upto_region 19 with (fail)
          obtain ⟨W5, hW5⟩ : ∃ W5, W3.alloc (.cells (madeCells #[.bool false] (o + 1)) 4) = W5 := ⟨_, rfl⟩
          obtain ⟨S, hS⟩ : ∃ S, W3.heap.size = S := ⟨_, rfl⟩
          have GR := hide (show W5.rowIs S 4 (o + 1) (fun q => .bool (decide ((q : Int) ∈ ([] : List Int)))) from by
            rw [← hW5, ← hS]
            have := World.rowIs_made W3 (.bool false) (o + 1) 4
            simpa using this)
          have HB5 := hide (show Below S W3 W5 from by rw [← hW5, ← hS]; exact (Below.refl _ W3).alloc (Nat.le_refl _) _)
          have cw1' : W5.cell? ⟨bw, ow + 1, none⟩ = some (.int .u64 (f 1)) := (HB5.out.cell (p := ⟨bw, ow + 1, none⟩) (by show bw < S; omega)).trans cw1
          have lbw5 : bw < W5.heap.size := by have := HB5.out.size; omega
          rw [hW5, hS]
          rw [hS] at SW KP
          clear hmk c0 c1 c2 c3 c4 c5 c6 c7 c8 c9 t1 lt1 l3 cw1 hW5 hS
          go_wp2_with fail
          try rw [hix]
          clear hix cw1' lbw5 hf1
          go_loopw [12, 13] (fun v12 v13 wr => ∃ (D E : List Int) (p : Int), C = D ++ E ∧ v12 = .int .i64 (D.length : Int) ∧ v13 = .int .i64 p ∧ Ch ⟨(o : Int), s1, s2, s3, s4, s5⟩ f p E ∧ wr.rowIs S 4 (o + 1) (fun q => .bool (decide ((q : Int) ∈ D))) ∧ Below S W3 wr) (fun v12 _ _ => C.length - (intOf v12).toNat)
          case atStart => exact ⟨[], C, idx (f 1), rfl, rfl, rfl, HE.out.ch, GR.out, HB5.out⟩
          case round =>
            obtain ⟨D, E, p, hDE, rfl, rfl, hch, hr, hb⟩ := hrel
            have HR := hide hr
            have HBr := hide hb
            obtain ⟨Wr, hWr⟩ : ∃ Wr, Wr = wr := ⟨_, rfl⟩
            subst hWr
            have lS := hr.lt
            obtain ⟨⟨-, lw, c0, c1, c2, c3, c4, c5, -⟩, t1, lt1⟩ := KP.out Wr hb
            clear hr
            cases E with
            | nil =>
              have hp : p = 0 := hch
              subst hp
              rw [List.append_nil] at hDE
              subst hDE
              clear hch hb
              have HR2 := HR
              have hcl : C.length ≤ 70000 := by
                have h1 := HABC.out.1
                have h2 := HABC.out.2.2.2.2
                omega
              go_wp2_with fail
              clear c0 c1 c2 c3 c4 c5 t1 lt1
              go_loopw [16] (fun v16 wx => ∃ i : Nat, 1 ≤ i ∧ i ≤ o + 1 ∧ v16 = .int .i64 (i : Int) ∧ Below Wr.heap.size Wr wx) (fun v16 _ => o + 1 - (intOf v16).toNat)
              case atStart => exact ⟨1, Nat.le_refl _, by omega, rfl, Below.refl _ _⟩
              case round =>
                obtain ⟨i, hi0, hi, rfl, hb⟩ := hrel
                have HB3 := hide hb
                obtain ⟨W2, hW2⟩ : ∃ W2, W2 = wr := ⟨_, rfl⟩
                subst hW2
                have hs2' := hb.size
                have hbS := HBr.out.trans (hb.mono (Nat.le_of_lt HR2.out.lt))
                have HBS := hide hbS
                obtain ⟨⟨hbw, lw2, c0, c1, c2, c3, c4, c5, -⟩, t1, lt1⟩ := KP.out W2 hbS
                have HBW := hide hbw
                clear hb hbS hbw
                by_cases hlt : i ≤ o
                · have hlt' : (i : Int) ≤ (o : Int) := by omega
                  have HGI := hide (meas_o (show i < o + 1 by omega))
                  have hx : there (Shp.mk (o : Int) s1 s2 s3 s4 s5) (i : Int) := ⟨by omega, hlt'⟩
                  have HC := hide (HOB.out (i : Int) hx)
                  obtain ⟨hb8, hb9, -⟩ := HHB.out (i : Int) hx
                  have hUS := HE.out.us (i : Int) hx
                  unfold usd at hUS
                  obtain ⟨q, hq⟩ : ∃ q : Nat, headAt (Shp.mk (o : Int) s1 s2 s3 s4 s5) (i : Int) = (q : Int) := ⟨(headAt (Shp.mk (o : Int) s1 s2 s3 s4 s5) (i : Int)).toNat, by omega⟩
                  rw [hq] at HC hb8 hb9 hUS
                  rw [Int.toNat_natCast] at hUS
                  have hnn := HE.out.nn.1
                  have hqn : q < n0 := by omega
                  have hqf := HE.out.fb q hqn
                  have hbit : bits .and .u64 (f q) 1 = f q % 2 := and1 _ hqf.1 hqf.2
                  have HBIT := hide hbit
                  have HUS := hide hUS
                  have hin : i < o + 1 := by omega
                  clear hb9 hnn hqf hUS hbit hx hq
                  go_wp2_with fail
                  refine (HC.out W2).mono ?_
                  rintro e w7 ⟨rfl, b7⟩
                  have B7 := hide (HB3.out.trans (b7.mono hs2'))
                  have B7S := HBS.out.trans (b7.mono (by have := HR2.out.lt; omega))
                  obtain ⟨bw', ow', eb, lbq, cq⟩ := SW.out w7 B7S q hqn
                  cases eb
                  have R7 := HR2.out.of_block (B7.out.block S HR2.out.lt)
                  have cs := R7.cell (i := i) hin
                  have lS7 := R7.lt
                  have hqn' : (q : Int) < (n0 : Int) := by omega
                  by_cases hm : (i : Int) ∈ C
                  · have hbv : bits .and .u64 (f q) 1 = 0 := by rw [HBIT.out]; exact HUS.out.1 hm
                    rw [show decide ((i : Int) ∈ C) = true from by simpa using hm] at cs
                    clear b7 B7S R7 hm c0 c1 c2 c3 c4 c5
                    go_wp2_with fail
                    go_quiet (fail)
                    go_wp2_with fail
                    go_roundw
                    case rel => exact ⟨i + 1, by omega, by omega, by go_num, below_dn B7.out _⟩
                    case measure => exact HGI.out
                  · have hbv : bits .and .u64 (f q) 1 = 1 := by rw [HBIT.out]; exact HUS.out.2 hm
                    rw [show decide ((i : Int) ∈ C) = false from by simpa using hm] at cs
                    clear b7 B7S R7 hm c0 c1 c2 c3 c4 c5
                    go_wp2_with fail
                    go_quiet (fail)
                    go_wp2_with fail
                    go_roundw
                    case rel => exact ⟨i + 1, by omega, by omega, by go_num, below_dn B7.out _⟩
                    case measure => exact HGI.out
                · have hlt' : ¬ (i : Int) ≤ (o : Int) := by omega
                  obtain ⟨hc1, h4, h5', hA6, hB6⟩ := HABC.out
                  obtain ⟨bw', ow', eb, lb4, c4'⟩ := SW.out W2 HBS.out 4 (by omega)
                  cases eb
                  obtain ⟨bw', ow', eb, lb5, c5'⟩ := SW.out W2 HBS.out 5 (by omega)
                  cases eb
                  rw [h4] at c4'
                  rw [h5'] at c5'
                  obtain ⟨z, hz⟩ : ∃ z, (A : Int) - (B : Int) = z := ⟨_, rfl⟩
                  have e1 : (o : Int) - (C.length : Int) = z := by omega
                  have w1' : wrap64 z = z := by unfold wrap64; omega
                  have u1' : IntKind.u64.wrap (A : Int) = (A : Int) := by rw [IntKind.wrap_u64]; omega
                  have u2' : IntKind.u64.wrap (B : Int) = (B : Int) := by rw [IntKind.wrap_u64]; omega
                  clear hc1 h4 h5'
                  go_wp2_with fail
                  go_ret
                  exact ⟨rfl, HBW.out⟩
            | cons x E' =>
              obtain ⟨rfl, hx, hch'⟩ := hch
              obtain ⟨xn, hxn⟩ : ∃ xn : Nat, p = (xn : Int) := ⟨p.toNat, by have := hx.1; omega⟩
              subst hxn
              have hnd := HE.out.nod
              rw [hDE] at hnd
              have hnin : ¬ (xn : Int) ∈ D := fun hm => (List.nodup_append.1 hnd).2.2 _ hm _ (by simp) rfl
              have hx1 : 1 ≤ xn := by have := hx.1; omega
              have hx2 : xn ≤ o := by have := hx.2; simp only at this; omega
              have g0 : ((xn : Int) != 0) = true := by simp; omega
              have g1 : ¬ ((xn : Int) < 1) := by omega
              have g2 : ¬ ((o : Int) < (xn : Int)) := by omega
              have hxl : xn < o + 1 := by omega
              have cs : Wr.cell? ⟨S, xn, none⟩ = some (.bool false) := by
                rw [HR.out.cell (i := xn) hxl]
                simp [hnin]
              have fs := HR.out.frozen xn
              obtain ⟨W6, hW6⟩ : ∃ W6, Wr.setCell ⟨S, xn, none⟩ (.bool true) = W6 := ⟨_, rfl⟩
              have HR6 := hide (show W6.rowIs S 4 (o + 1) (fun q => .bool (decide ((q : Int) ∈ D ++ [(xn : Int)]))) from by
                rw [← hW6]
                obtain ⟨cur, r1, r2, r3⟩ := HR.out.set xn (.bool true)
                refine ⟨cur, r1, r2, fun j hj => ?_⟩
                rw [r3 j hj]
                by_cases e : j = xn
                · subst e; simp
                · have : ¬ (j : Int) = (xn : Int) := by omega
                  simp [e, this])
              have B6 : Below S W3 W6 := by rw [← hW6]; exact hb.setCell (p := ⟨S, xn, none⟩) (Nat.le_refl _) _
              have HB6 := hide B6
              obtain ⟨⟨-, lw6, e0, e1, e2, e3, e4, e5, -⟩, -, -⟩ := KP.out W6 B6
              have HC := hide (HOB.out (xn : Int) hx)
              obtain ⟨hb8, hb9, hb10⟩ := HHB.out (xn : Int) hx
              have hln : linkAt (Shp.mk (o : Int) s1 s2 s3 s4 s5) (xn : Int) = headAt (Shp.mk (o : Int) s1 s2 s3 s4 s5) (xn : Int) + 1 := hb10
              obtain ⟨q, hq⟩ : ∃ q : Nat, headAt (Shp.mk (o : Int) s1 s2 s3 s4 s5) (xn : Int) = (q : Int) := ⟨(headAt (Shp.mk (o : Int) s1 s2 s3 s4 s5) (xn : Int)).toNat, by omega⟩
              have hnn := HE.out.nn.1
              rw [hq] at HC hb8 hb9 hln
              have hqn : q + 1 < n0 := by omega
              have hqf := HE.out.fb (q + 1) hqn
              have hL : lnk (Shp.mk (o : Int) s1 s2 s3 s4 s5) f (xn : Int) = idx (f (q + 1)) := by unfold lnk; rw [hln]; rfl
              have HNX := hide (show Ch (Shp.mk (o : Int) s1 s2 s3 s4 s5) f (idx (f (q + 1))) E' from by rw [← hL]; exact hch')
              have HDE := hide (show C = (D ++ [(xn : Int)]) ++ E' from by rw [hDE]; simp)
              have HM := hide (show C.length - (intOf (.int .i64 ((D.length : Int) + 1))).toNat < C.length - (intOf (.int .i64 (D.length : Int))).toNat from by
                have : D.length < C.length := by rw [hDE]; simp
                exact meas_o this)
              have hDl : D.length ≤ 70000 := by
                have h1 := HABC.out.1
                have h2 := HABC.out.2.2.2.2
                have : D.length < C.length := by rw [hDE]; simp
                omega
              clear hnin hnd hch' hDE hb B6 hL hln hb10 hq hb9 hnn hx
              go_wp2_with fail
              try rw [hW6]
              refine (HC.out W6).mono ?_
              rintro e w7 ⟨rfl, b7⟩
              have R7 := hide (HR6.out.of_block (b7.block S (by have := HB6.out.size; have := HR6.out.lt; omega)))
              have B7 := hide (HB6.out.trans (b7.mono (Nat.le_of_lt HR6.out.lt)))
              obtain ⟨bw', ow', eb, lbq, cq⟩ := SW.out w7 B7.out (q + 1) hqn
              cases eb
              have hix : wrap64 (bits .and .u64 (f (q + 1)) 4294967295) = idx (f (q + 1)) := by rw [wrap64_low _ hqf.1 hqf.2]; rfl
              have hq1 : q ≤ 100000 := by
                have := HE.out.nn.1
                have h5 := HE.out.h5
                obtain ⟨want, w1', w2', w3'⟩ := size_nat h5
                have ha : all0 (Shp.mk (o : Int) s1 s2 s3 s4 s5) = sizeOf (Shp.mk (o : Int) s1 s2 s3 s4 s5) := rfl
                omega
              have hqn' : (q : Int) + 1 < (n0 : Int) := by omega
              have cq' : w7.cell? ⟨bw, ow + (q + 1), none⟩ = some (.int .u64 (f (q + 1))) := cq
              clear b7 hW6 e0 e1 e2 e3 e4 e5 c0 c1 c2 c3 c4 c5 cs fs cq hqf
              go_wp2_with fail
              try rw [hix]
              clear hix cq'
              go_roundw
              case rel => exact ⟨D ++ [(xn : Int)], E', idx (f (q + 1)), HDE.out, by rw [List.length_append]; go_num, rfl, HNX.out, R7.out, B7.out⟩
              case measure => exact HM.out
end Rom
end
end Go.Proofs.YtidihnnmdmlgfaaGreat
