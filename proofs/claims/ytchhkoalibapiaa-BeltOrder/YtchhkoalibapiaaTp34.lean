/-
  Lemmas: BeltZ.
-/
import Derived.Test.YtchhkoalibapiaaTp32
import Derived.Test.YtchhkoalibapiaaTp33
import Derived.Deep.CutBlock
import Derived.Deep.CutRange
import Derived.Deep.QuietTactic
/-
  BeltOrder: the law's own walk.
-/
namespace Go.Proofs.Ytchhkoalibapiaa
open Go.RowKit Go.Maps
set_option linter.unusedVariables false
set_option linter.unusedSimpArgs false
set_option linter.unnecessarySimpa false
set_option maxRecDepth 20000
namespace Belt

theorem given_list {w : World} {gb T H : Nat} {g : Nat → Int} (R : w.rowIs gb 55 T (fun p => .int .u64 (g p))) (h : H ≤ T) : LV w (some ⟨gb, 0, none⟩) ((List.range H).map g) T := by
  refine ⟨fun e => (by cases e), by simpa using h, fun k v hk => ⟨gb, 0, rfl, R.lt, ?_⟩⟩
  rw [List.getElem?_map] at hk
  obtain ⟨q, hq, rfl⟩ := Option.map_eq_some_iff.1 hk
  obtain ⟨lt, e⟩ := List.getElem?_eq_some_iff.1 hq
  rw [List.getElem_range] at e
  subst e
  rw [Nat.zero_add]
  exact R.cell (i := k) (by have := List.length_range (n := H); omega)
theorem full_run {r : Nat} {P : Par} {m k : Nat} (hk : k = (rn r P m).k) (hen : false = decide (Go.Proofs.Ytchhkoalibapiaa.cnt ((rn r P m).going P) P.nh = 0)) : k = m := by
  have hK : (rn r P m).k ≤ m ∧ ((rn r P m).k < m → (rn r P m).turn P < 0) := runSt_k P (st0 (kBelt r) P (bfr r)) rfl m
  rcases Nat.lt_or_ge k m with l | l
  · have ht := hK.2 (by rw [← hk]; exact l)
    rcases turn_ok P (rn r P m) with ⟨_, h0⟩ | ⟨h, h0, _⟩
    · rw [decide_eq_true h0] at hen; cases hen
    · rw [h0] at ht; omega
  · have := hK.1; rw [← hk] at this; omega
/-- What stands at the head of a round. -/
def LZ (r : Nat) (P : Par) (k Bm : Nat) (w7 : World) (v17 v87 : Value) (wr : World) : Prop :=
  ∃ i : Nat, i ≤ k ∧ v87 = .int .i64 (i : Int) ∧ v17 = .int .u64 ((Hn r P i : Nat) : Int) ∧ MapO wr Bm i (tm r P i) ∧ (∀ h, P.nh ≤ h → tm r P i h = none) ∧ Below w7.heap.size w7 wr
theorem LZ.set {r : Nat} {P : Par} {k b o : Nat} {w7 w : World} {v17 v87 v : Value} (L : LZ r P k w7.heap.size w7 v17 v87 w) (hb : w7.heap.size < b) : LZ r P k w7.heap.size w7 v17 v87 (w.setCell ⟨b, o, none⟩ v) := by
  obtain ⟨i, h1, h2, h3, M, h4, B⟩ := L
  exact ⟨i, h1, h2, h3, M.block ((Touch.setCell (S := fun k => k = b) (Touch.refl w _) ⟨b, o, none⟩ (.inl rfl) v).block _ M.lt (by show ¬ w7.heap.size = b; omega)), h4, below_set B B.size (Nat.le_of_lt hb)⟩
theorem tm_out {r : Nat} {P : Par} {i h : Nat} {o : Option Nat} (hh : h < P.nh) (a : ∀ h, P.nh ≤ h → tm r P i h = none) (e : tm r P (i + 1) = upd (tm r P i) h o) : ∀ h, P.nh ≤ h → tm r P (i + 1) h = none := fun j hj => by
  rw [e, upd_other _ _ (by omega)]; exact a j hj
theorem u_next {x : Nat} (h : x ≤ 65536) : IntKind.u64.wrap ((x : Int) + 1) = (x : Int) + 1 := by rw [IntKind.wrap_u64]; omega
theorem no_ge1 (r : Nat) : ¬ 2 + (r : Int) ≤ 1 := by omega
theorem cell_g {w w' : World} {b c off : Nat} {v : Value} (g : w.grownBy w' (some b)) (hc : w.cell? ⟨c, off, none⟩ = some v) (hne : c ≠ b) : w'.cell? ⟨c, off, none⟩ = some v :=
  (World.cell?_of_block (a := ⟨c, off, none⟩) (g.block c (World.block_lt_of_cell? _ _ hc) (by simpa using hne))).trans hc
theorem r2_of {r r2 : Nat} (h : r ≤ 64) (e : wrap64 (2 + (r : Int)) = (r2 : Int)) : (r2 : Int) = 2 + (r : Int) := by unfold wrap64 at e; omega
theorem b_facts {p Hi Hh T r av : Nat} (a : p < Hi) (b : Hi ≤ Hh) (c : Hh ≤ T) (d : T ≤ 65536) (e : 2 + (r : Int) ≤ (av : Int)) : (p : Int) < T ∧ ¬ (T : Int) ≤ p ∧ IntKind.u64.wrap (T : Int) = (T : Int) ∧ ¬ (av : Int) = 1 ∧ p < T ∧ p ≤ 70000 := by
  refine ⟨by omega, by omega, by rw [IntKind.wrap_u64]; omega, by omega, by omega, by omega⟩
theorem MapO.more {w : World} {b N N' : Nat} {g : Nat → Option Nat} (M : MapO w b N g) (h : N ≤ N') : MapO w b N' g := by
  obtain ⟨D, ho, r⟩ := M
  exact ⟨D, ho.mono h, r⟩

set_option maxHeartbeats 16000000 in
theorem order_walk {w : World} {s0 s1 s2 s3 s4 s5 : Int} {aoh aos : Option Addr} {nh caph ns caps : Nat} {jn : Nat → Nat} {jb : Nat → Nat → Jb} {sched : Nat → Int} (SH : SeesH w w.heap.size aoh nh jn jb) (hn63 : nh ≤ 9223372036854775807) (SI : SeesI w w.heap.size aos ns sched) (hjw : ∀ h, h < nh → ∀ j, j < jn h → (jb h j).wf) :
    Calls Try.prog 4 #[.agg #[.int .i64 s0, .int .i64 s1, .int .i64 s2, .int .i64 s3, .int .i64 s4, .int .i64 s5], .slice aoh nh caph, .slice aos ns caps] w fun e w' => e = .returned (.bool true) ∧ Below w.heap.size w w' := by
  have HSH := hide SH
  have HJW := hide hjw
  have HSI := hide SI
  have HN63 := hide hn63
  obtain ⟨W1, hW1⟩ : ∃ W1, w.alloc (.cells #[.int .i64 s0, .int .i64 s1, .int .i64 s2, .int .i64 s3, .int .i64 s4, .int .i64 s5] 23) = W1 := ⟨_, rfl⟩
  have B1 : Below w.heap.size w W1 := by rw [← hW1]; exact (Below.refl _ w).alloc (Nat.le_refl _) _
  have R1 : W1.rowIs w.heap.size 23 6 (lrow [.int .i64 s0, .int .i64 s1, .int .i64 s2, .int .i64 s3, .int .i64 s4, .int .i64 s5]) := by rw [← hW1]; exact rowL_alloc w [.int .i64 s0, .int .i64 s1, .int .i64 s2, .int .i64 s3, .int .i64 s4, .int .i64 s5] _ rfl
  have z1 : W1.heap.size = w.heap.size + 1 := by rw [← hW1]; simp
  have keep := hide (fun (w' : World) (hb : Below W1.heap.size W1 w') => show Below w.heap.size w w' ∧ w.heap.size < w'.heap.size ∧ w'.cell? ⟨w.heap.size, 0, none⟩ = some (.int .i64 s0) ∧ w'.cell? ⟨w.heap.size, 1, none⟩ = some (.int .i64 s1) ∧ w'.cell? ⟨w.heap.size, 2, none⟩ = some (.int .i64 s2) ∧ w'.cell? ⟨w.heap.size, 3, none⟩ = some (.int .i64 s3) ∧ w'.cell? ⟨w.heap.size, 4, none⟩ = some (.int .i64 s4) ∧ w'.cell? ⟨w.heap.size, 5, none⟩ = some (.int .i64 s5) from by
    have r := R1.of_block (hb.block w.heap.size (by omega))
    exact ⟨B1.trans (hb.mono B1.size), r.lt, r.cell (i := 0) (by decide), r.cell (i := 1) (by decide), r.cell (i := 2) (by decide), r.cell (i := 3) (by decide), r.cell (i := 4) (by decide), r.cell (i := 5) (by decide)⟩)
  have SO := hide (fun (h1 : 1 ≤ s5) (h2 : s5 ≤ 64) (w1 : World) => rsize_ok w1 ⟨s0, s1, s2, s3, s4, s5⟩ h1 h2)
  have SB := hide (fun (h : s5 < 1 ∨ 64 < s5) (w1 : World) => rsize_bad w1 ⟨s0, s1, s2, s3, s4, s5⟩ h)
  have FO := hide (fun (h1 : 1 ≤ s5) (h2 : s5 ≤ 64) (want : Nat) (r : Nat) (hr : (r : Int) = s5) (hw : want = 2 + 2 * r) (w1 : World) => fresh_ok w1 ⟨s0, s1, s2, s3, s4, s5⟩ h1 h2 hr hw)
  simp only [Shp.val] at SO SB FO
  clear SH SI hjw hn63 B1 R1
  go_enter Try.func4, Try.ntmps4
  go_wp2_with fail
  refine (awake_any W1).mono ?_
  rintro e w2 ⟨rfl, hb2⟩
  have HB2 := hide hb2
  obtain ⟨_, l2, c0, c1, c2, c3, c4, c5⟩ := keep.out w2 hb2
  clear hb2 hW1
  by_cases hbad : s5 < 1 ∨ 64 < s5
  · have HF := hide (SB.out hbad)
    clear SO SB FO
    go_wp2_with fail
    refine (HF.out _).mono ?_
    rintro e w3 ⟨rfl, hg3⟩
    have B3 := hide (HB2.out.trans ((below_of_grown_none hg3 _ (Nat.le_refl _)).mono HB2.out.size))
    clear hg3 c0 c1 c2 c3 c4 c5
    go_wp2_with fail
    go_ret
    exact ⟨rfl, (keep.out w3 B3.out).1⟩
  · have h1 : 1 ≤ s5 := by omega
    have h2 : s5 ≤ 64 := by omega
    obtain ⟨r, hr⟩ : ∃ r : Nat, s5 = (r : Int) := ⟨s5.toNat, by omega⟩
    subst hr
    have hr1 : 1 ≤ r := by omega
    have hr2 : r ≤ 64 := by omega
    have HS := hide (SO.out h1 h2)
    have HF := hide (FO.out h1 h2 (2 + 2 * r) r rfl rfl)
    clear SO SB FO hbad
    go_wp2_with fail
    refine (HS.out _).mono ?_
    rintro e w3 ⟨rfl, hg3⟩
    have HB3 := hide (HB2.out.trans ((below_of_grown_none hg3 _ (Nat.le_refl _)).mono HB2.out.size))
    clear hg3 c0 c1 c2 c3 c4 c5
    obtain ⟨_, l3, c0, c1, c2, c3, c4, c5⟩ := keep.out w3 HB3.out
    go_wp2_with fail
    refine (HF.out _).mono ?_
    rintro e w4 ⟨g, rfl, RW, hg, hg4⟩
    have HB4 := hide (HB3.out.trans ((below_of_grown_none hg4 _ (Nat.le_refl _)).mono HB3.out.size))
    have S4 := hide (RW.sees)
    clear hg4 RW hg c0 c1 c2 c3 c4 c5
    obtain ⟨b4, l4, c0, c1, c2, c3, c4, c5⟩ := keep.out w4 HB4.out
    have PL := hide (play_so (w := w4) (sh := ⟨s0, s1, s2, s3, s4, r⟩) (P := ⟨2 + 2 * r, nh, jn, jb, ns, sched⟩) (cap := 2 + 2 * r) (caph := caph) (caps := caps) (most := 65536) (r := r) rfl hr1 hr2 rfl S4.out ((HSH.out.below b4 (Nat.le_refl _)).up b4.size) HN63.out ((HSI.out.below b4 (Nat.le_refl _)).up b4.size) HJW.out)
    simp only [Shp.val] at PL
    have B4 := hide b4
    clear b4
    go_wp2_with fail
    refine PL.out.mono ?_
    rintro e w5 ⟨hb5, sa, k, sc, wa, n, wc, en, aa, m, ac, er, rfl, hT⟩
    have HB5 := hide (HB4.out.trans (hb5.mono HB4.out.size))
    have B45 := hide hb5
    clear hb5 c0 c1 c2 c3 c4 c5 PL
    unfold tv3
    obtain ⟨W5, hW5⟩ : ∃ W5, w5.alloc (.cells #[.slice sa k sc, .slice wa n wc, .bool en] 32) = W5 := ⟨_, rfl⟩
    have z5 : W5.heap.size = w5.heap.size + 1 := by rw [← hW5]; simp
    have B55 : Below w5.heap.size w5 W5 := by rw [← hW5]; exact (Below.refl _ w5).alloc (Nat.le_refl _) _
    have R5 := hide (show W5.rowIs w5.heap.size 32 3 (lrow [.slice sa k sc, .slice wa n wc, .bool en]) from by rw [← hW5]; exact rowL_alloc w5 [.slice sa k sc, .slice wa n wc, .bool en] _ rfl)
    have BW5 := hide (HB5.out.trans (B55.mono HB5.out.size))
    by_cases her : er = 0
    · subst her
      obtain ⟨q1, q2, q3, q4, hk, hm, hn, hen, SS, SWd, SA⟩ := hT rfl
      simp only at q1 q2 q3 q4 hm hn
      have hm' := hm.symm
      subst hm'
      have hn' := hn.symm
      subst hn'
      have hm0 : (65536 : Int).toNat = 65536 := rfl
      rw [hm0] at hk SS SA SWd hen q3
      have hK : (rn r ⟨2 + 2 * r, nh, jn, jb, ns, sched⟩ 65536).k ≤ 65536 ∧ ((rn r ⟨2 + 2 * r, nh, jn, jb, ns, sched⟩ 65536).k < 65536 → (rn r ⟨2 + 2 * r, nh, jn, jb, ns, sched⟩ 65536).turn ⟨2 + 2 * r, nh, jn, jb, ns, sched⟩ < 0) := runSt_k ⟨2 + 2 * r, nh, jn, jb, ns, sched⟩ (st0 (kBelt r) ⟨2 + 2 * r, nh, jn, jb, ns, sched⟩ (bfr r)) rfl 65536
      have t0c : W5.cell? ⟨w5.heap.size, 0, none⟩ = some (.slice sa k sc) := R5.out.cell (i := 0) (by decide)
      have t1c : W5.cell? ⟨w5.heap.size, 1, none⟩ = some (.slice wa (2 + 2 * r) wc) := R5.out.cell (i := 1) (by decide)
      have t2c : W5.cell? ⟨w5.heap.size, 2, none⟩ = some (.bool en) := R5.out.cell (i := 2) (by decide)
      have H1 := hide (And.intro hk hen)
      have H2 := hide (And.intro q1 (And.intro q2 (And.intro q3 q4)))
      have H3 := hide hK
      clear hk hen q1 q2 q3 q4 hK hT
      go_upto_region 10 with (fail)
      obtain ⟨hk, hen⟩ := H1.out
      obtain ⟨q1, q2, q3, q4⟩ := H2.out
      have hK := H3.out
      clear hW5 H1 H2 H3
      cases en with
      | false =>
        have hk16 : k = 65536 := full_run hk hen
        have B6 := hide ((keep.out W5 BW5.out).1)
        clear SS SA SWd q1 q2 q3 q4 hk hen hm0 hK B55 R5 keep
        subst hk16
        go_wp2_with fail
        go_ret
        exact ⟨rfl, B6.out⟩
      | true =>
        have hcn := of_decide_eq_true hen.symm
        obtain ⟨P, hP⟩ : ∃ P : Par, (⟨2 + 2 * r, nh, jn, jb, ns, sched⟩ : Par) = P := ⟨_, rfl⟩
        have pn : P.nh = nh := by rw [← hP]
        have pw : P.n = 2 + 2 * r := by rw [← hP]
        have SHP := hide (show SeesH W5 W5.heap.size aoh P.nh P.jn P.jb from by rw [← hP]; exact (HSH.out.below (keep.out W5 BW5.out).1 (Nat.le_refl _)).up (keep.out W5 BW5.out).1.size)
        have hj8 : P.nh ≤ 8 := by rw [← hP]; exact q1
        have hj256 : ∀ h, h < P.nh → P.jn h ≤ 256 := by rw [← hP]; exact q2
        have hle : ∀ h, h < P.nh → (rn r P 65536).done h ≤ P.jn h := by rw [← hP]; exact q3
        have hok : ∀ h, h < P.nh → ∀ j, j < P.jn h → berr (P.jb h j) = 0 := by rw [← hP]; exact q4
        rw [hP] at hk hcn SS SWd SA
        replace hcn : Go.Proofs.Ytchhkoalibapiaa.cnt (St.going P (rn r P 65536)) P.nh = 0 := by first | exact hcn | (rw [pn]; exact hcn)
        have hd : ∀ h, h < P.nh → (rn r P 65536).done h = P.jn h := fun h hh => all_done hcn hle hh
        have RI : Ri r P := ⟨hr1, hr2, pw, hok, by rw [← hP]; exact HJW.out⟩
        obtain ⟨ow, fw, ABV⟩ := run_bv RI 65536 (Nat.le_refl _)
        rw [← hk] at ABV
        have rk : rn r P k = rn r P 65536 := by rw [hk]; exact run_at_k P (st0 (kBelt r) P (bfr r)) rfl 65536
        have k16 : k ≤ 65536 := by rw [hk]; exact (runSt_k P (st0 (kBelt r) P (bfr r)) rfl 65536).1
        have hdk : ∀ h, h < P.nh → (rn r P k).done h = P.jn h := by rw [rk]; exact hd
        have FA := fa_of RI k16 (ABV k (Nat.le_refl _)).1 hdk
        rw [show (rn r P k).f = (rn r P 65536).f from by rw [rk], show (rn r P k).ans = (rn r P 65536).ans from by rw [rk]] at FA
        obtain ⟨T, hT⟩ : ∃ T, Tn r P k = T := ⟨_, rfl⟩
        obtain ⟨Hh, hHh⟩ : ∃ Hh, Hn r P k = Hh := ⟨_, rfl⟩
        rw [hT, hHh] at FA
        have SS5 := hide ((SS.below B55 (Nat.le_refl _)).mono B55.size)
        have TLD := hide (told_ok (w := W5) (s0 := s0) (s1 := s1) (s2 := s2) (s3 := s3) (s4 := s4) (r := r) (aoh := aoh) (wa := wa) (aa := aa) (caph := caph) (wcp := wc) (ac := ac) (P := P) hr1 hr2 hj8 hj256 SHP.out ((SWd.below B55 (Nat.le_refl _)).mono B55.size) (by have := (SA.below B55 (Nat.le_refl _)).mono B55.size; simpa [pn] using this) FA hd)
        have PRM := hide (perm_gv FA)
        have FVL := hide (fv_len FA)
        have GW := hide (show ∀ x, x ∈ (List.range Hh).map (gvo P ow) → 0 ≤ x ∧ x ≤ 18446744073709551615 from fun x hx => by
          obtain ⟨p, hp, rfl⟩ := List.mem_map.1 hx
          obtain ⟨a, b, _⟩ := FA.g1 p (Nat.lt_of_lt_of_le (List.mem_range.1 hp) FA.b.1)
          exact FA.wd _ _ a b)
        have HTB := hide FA.b
        obtain ⟨FVv, hFVv⟩ : ∃ L, fv P (rn r P 65536).ans P.nh 0 = L := ⟨_, rfl⟩
        rw [hFVv] at TLD PRM FVL
        rw [FVL.out] at TLD
        have LBO := hide (fun (i : Nat) (hi : i < k) => law_bo (m := 65536) RI (Nat.le_refl _) (by rw [← hk]; exact hi) (ABV i (Nat.le_of_lt hi)).1)
        have LEH := hide (fun (i : Nat) (hi : i ≤ k) => show Hn r P i ≤ Hh from by rw [← hHh]; exact (ABV i hi).2.2)
        have TE := hide (fun (h : Nat) (hh : h < P.nh) => tm_end (m := k) hdk hh)
        have HHh := hide hHh
        have HK := hide (And.intro hk k16)
        have PN := hide pn
        have HJ8 := hide hj8
        rw [pn] at TLD
        obtain ⟨gvF, hgvF⟩ : ∃ g, gvo P ow = g := ⟨_, rfl⟩
        rw [hgvF] at TLD PRM GW LBO
        obtain ⟨b0, l5, c0, c1, c2, c3, c4, c5⟩ := keep.out W5 BW5.out
        have hT16 := FA.b
        clear SS SA SWd q1 q2 q3 q4 hk hen hm0 hK B55 hcn hj8 hj256 hle hok hd hdk rk k16 ABV RI FA pw hT hHh hFVv hgvF hP pn b0
        go_wp2_with fail
        refine TLD.out.mono ?_
        rintro e w6 ⟨hb6, gb, lo, cp, rfl, hgiv, hfet⟩
        have B56 := hide hb6
        have HGIV := hide hgiv
        have HFET := hide hfet
        have AMG := hide (among_ok (w := w6) (A := (List.range Hh).map gvF) (B := FVv) (given_list hgiv HTB.out.1) hfet PRM.out (by simpa using (by have := HTB.out; omega : Hh ≤ 70000)) GW.out)
        rw [show ((List.range Hh).map gvF).length = Hh by simp, FVL.out] at AMG
        have lw55 : w5.heap.size < W5.heap.size := R5.out.lt
        have c5 : w6.cell? ⟨w.heap.size, 5, none⟩ = some (.int .i64 (r : Int)) := (keep.out w6 (BW5.out.trans (hb6.mono BW5.out.size))).2.2.2.2.2.2.2
        have t0d : w6.cell? ⟨w5.heap.size, 0, none⟩ = some (.slice sa k sc) := (hb6.cell (p := ⟨w5.heap.size, 0, none⟩) lw55).trans t0c
        have sl1 : (0 : Int) ≤ Hh := by omega
        have sl2 : (Hh : Int) ≤ T := by omega
        have sl3 : Hh ≤ T := hT16.1
        clear TLD hb6 hgiv hfet t0c t1c t2c c0 c1 c2 c3 c4
        go_wp2_with fail
        refine AMG.out.mono ?_
        rintro e w7 ⟨rfl, hb7⟩
        have B67 := hide hb7
        have HB57 := hide (B56.out.trans (hb7.mono B56.out.size))
        have c5 : w7.cell? ⟨w.heap.size, 5, none⟩ = some (.int .i64 (r : Int)) := (keep.out w7 (BW5.out.trans (HB57.out.mono BW5.out.size))).2.2.2.2.2.2.2
        have t0e : w7.cell? ⟨w5.heap.size, 0, none⟩ = some (.slice sa k sc) := (hb7.cell (p := ⟨w5.heap.size, 0, none⟩) (World.block_lt_of_cell? _ _ t0d)).trans t0d
        have HG7 := hide (HGIV.out.of_block (hb7.block _ HGIV.out.lt))
        have HBw7 := hide ((keep.out w7 (BW5.out.trans (HB57.out.mono BW5.out.size))).1)
        have hmm := @run_makeMap Try.prog
        obtain ⟨W8, hW8⟩ : ∃ W8, w7.alloc (.map #[] 0) = W8 := ⟨_, rfl⟩
        have M0 := hide (show MapO W8 w7.heap.size 0 (fun _ => none) from by rw [← hW8]; exact MapO.made w7)
        have B78 := hide (show Below w7.heap.size w7 W8 from by rw [← hW8]; exact (Below.refl _ w7).alloc (Nat.le_refl _) _)
        have t0f : W8.cell? ⟨w5.heap.size, 0, none⟩ = some (.slice sa k sc) := (B78.out.cell (p := ⟨w5.heap.size, 0, none⟩) (World.block_lt_of_cell? _ _ t0e)).trans t0e
        clear AMG hb7 t0d HGIV HFET PRM GW c5
        go_wp2_with fail
        clear hmm hW8 t0e t0f
        go_loopw [17, 87] (fun v17 v87 wr => LZ r P k w7.heap.size w7 v17 v87 wr) (fun _ v87 _ => k - (intOf v87).toNat)
        case atStart =>
          refine ⟨0, Nat.zero_le _, rfl, ?_, by rw [tm_start]; exact M0.out, fun h _ => by rw [tm_start], B78.out⟩
          have : Hn r P 0 = 0 := by unfold Hn; show (bfr r 1).toNat = 0; simp [bfr]
          rw [this]; rfl
        case round =>
          obtain ⟨i, hi, rfl, rfl, hM, hO, hb⟩ := hrel
          have HM := hide hM
          have HO := hide hO
          have HBr := hide hb
          have c5r := (keep.out wr (BW5.out.trans ((HB57.out.trans (hb.mono HB57.out.size)).mono BW5.out.size))).2.2.2.2.2.2.2
          have HB5r := hide (HB57.out.trans (hb.mono HB57.out.size))
          have lc5r := World.block_lt_of_cell? _ _ c5r
          have k16 : k ≤ 65536 := HK.out.2
          clear hM hO hb
          by_cases hlt : i < k
          · as_aux_lemma =>
            have hlt' : (i : Int) < k := by omega
            obtain ⟨h, hh, hhand, LS⟩ := LBO.out i hlt
            have h8 : h < 8 := Nat.lt_of_lt_of_le hh HJ8.out
            obtain ⟨sb, so, esa, hsb, hcs⟩ := (SS5.out.below HB5r.out (Nat.le_refl _)) i (by have := HK.out.1; omega)
            have LE1 : Hn r P i ≤ Hh := LEH.out i hi
            obtain ⟨Hi, hHi⟩ : ∃ x, Hn r P i = x := ⟨_, rfl⟩
            generalize (rn r P 65536).s i = x at hcs LS hhand
            obtain ⟨xh, xa, xt, xd, xp, xo⟩ := x
            obtain rfl : xh = (h : Int) := hhand
            have p0 : wr.cell? ⟨sb, so + i * 6, none⟩ = some (.int .i64 h) := hcs 0 (by omega)
            have p1 : wr.cell? ⟨sb, so + i * 6 + 1, none⟩ = some (.int .i64 xa) := hcs 1 (by omega)
            have p2 : wr.cell? ⟨sb, so + i * 6 + 2, none⟩ = some (.int .i64 xt) := hcs 2 (by omega)
            have p3 : wr.cell? ⟨sb, so + i * 6 + 3, none⟩ = some (.int .u64 xd) := hcs 3 (by omega)
            have p4 : wr.cell? ⟨sb, so + i * 6 + 4, none⟩ = some (.int .u64 xp) := hcs 4 (by omega)
            have p5 : wr.cell? ⟨sb, so + i * 6 + 5, none⟩ = some (.bool xo) := hcs 5 (by omega)
            subst esa
            obtain ⟨Wq, hWq⟩ : ∃ W, wr.alloc (.cells #[.int .i64 h, .int .i64 xa, .int .i64 xt, .int .u64 xd, .int .u64 xp, .bool xo] 57) = W := ⟨_, rfl⟩
            have RSq : Wq.rowIs wr.heap.size 57 6 (lrow [.int .i64 h, .int .i64 xa, .int .i64 xt, .int .u64 xd, .int .u64 xp, .bool xo]) := by rw [← hWq]; exact rowL_alloc wr [.int .i64 h, .int .i64 xa, .int .i64 xt, .int .u64 xd, .int .u64 xp, .bool xo] 57 (n := 6) rfl
            have BQ : Below wr.heap.size wr Wq := by rw [← hWq]; exact (Below.refl _ wr).alloc (Nat.le_refl _) _
            have HMq := hide (show MapO Wq w7.heap.size i (tm r P i) from HM.out.block (BQ.block _ HM.out.lt))
            have HBq := hide (show Below w7.heap.size w7 Wq from HBr.out.trans (BQ.mono HBr.out.size))
            have HGq := hide (HG7.out.of_block (HBq.out.block _ HG7.out.lt))
            have y0 : Wq.cell? ⟨wr.heap.size, 0, none⟩ = some (.int .i64 h) := RSq.cell (i := 0) (by decide)
            have y1 : Wq.cell? ⟨wr.heap.size, 1, none⟩ = some (.int .i64 xa) := RSq.cell (i := 1) (by decide)
            have y2 : Wq.cell? ⟨wr.heap.size, 2, none⟩ = some (.int .i64 xt) := RSq.cell (i := 2) (by decide)
            have y3 : Wq.cell? ⟨wr.heap.size, 3, none⟩ = some (.int .u64 xd) := RSq.cell (i := 3) (by decide)
            have y5 : Wq.cell? ⟨wr.heap.size, 5, none⟩ = some (.bool xo) := RSq.cell (i := 5) (by decide)
            have c5q : Wq.cell? ⟨w.heap.size, 5, none⟩ = some (.int .i64 (r : Int)) := (BQ.cell (p := ⟨w.heap.size, 5, none⟩) lc5r).trans c5r
            have lq0 : wr.heap.size < Wq.heap.size := RSq.lt
            have fq5 := RSq.frozen 5
            have lq1 : w.heap.size < Wq.heap.size := World.block_lt_of_cell? _ _ c5q
            have lq2 : w7.heap.size < wr.heap.size := HM.out.lt
            have e22 : wrap64 (2 + (r : Int)) = 2 + (r : Int) := by unfold wrap64; omega
            rw [hHi]
            clear hcs RSq BQ HM HBr HB5r
            rcases LS with ⟨⟨rfl, rfl, rfl⟩, rfl, eH, eT⟩ | ⟨nA, eH, ⟨⟨rfl, g2⟩, p, tp, lt, rfl, rfl, eT⟩ | ⟨nB, eT⟩⟩
            · as_aux_lemma =>
              rw [hHi] at eH eT y3 p3 hWq
              have hW : Hi ≤ 65536 := by have := HTB.out; omega
              have uN := u_next hW
              have hHi70 : Hi ≤ 70000 := Nat.le_trans hW (by decide)
              have hiM : i < maxLen := by unfold maxLen; omega
              have HHI := hide hHi
              have HEH := hide eH
              have HET := hide eT
              clear hHi eH eT LE1
              go_wp2_with (first | (at_mapUpdate; refine wpList_putO Try.underlying54 _ rfl _ _ _ rfl HMq.out hiM h8 (p := Hi) hHi70 rfl rfl rfl ?_; intro w1 hm1 hg1; have M1 := hide hm1; have G1 := hide hg1; have z1' := cell_g hg1 y1 (Nat.ne_of_gt lq2); have z2' := cell_g hg1 y2 (Nat.ne_of_gt lq2); clear hm1 hg1) | go_in)
              go_roundw
              case rel =>
                refine ⟨i + 1, hlt, vi_b, by rw [HEH.out]; exact vi_u, by rw [HET.out]; exact M1.out, tm_out hh HO.out HET.out, HBq.out.grown G1.out HBq.out.size (fun q hq => by cases hq; exact Nat.le_refl _)⟩
              case measure => exact meas_b hlt
            · as_aux_lemma =>
              rw [hHi] at eH lt
              obtain ⟨gq1, gq2, uT, gq3, gq4, gq5⟩ := b_facts lt (by omega) HTB.out.1 HTB.out.2.2 g2
              obtain ⟨pm, am, av, r2', tm0, km, kv, w1, w2, w3, w4, x1, x2, x3, la1, la2, u1, g0, lm, lv⟩ := pl_facts (n2 := 2 + 2 * r) (p := p) hr1 hr2 rfl gq5
              have LK := HMq.out.look (T := 54) Try.underlying54 h8 tp
              have dq1 : decide ((T : Int) ≤ (p : Int)) = false := decide_eq_false gq2
              have cg : Wq.cell? ⟨gb, p, none⟩ = some (.int .u64 (gvF p)) := HGq.out.cell (i := p) gq4
              have lgb : gb < Wq.heap.size := HGq.out.lt
              rw [kv] at g2 gq3 hWq p2 y2
              have w5' : wrap64 (2 + (r : Int) + (pm : Int)) = (av : Int) := by rw [← r2_of hr2 w3]; exact w4
              clear w3 w4
              have HEH := hide eH
              have HET := hide eT
              have HHI := hide hHi
              clear eH eT LE1 lm lv km kv la1 la2 w2 x1 x2 x3 e22 hHi tp lt gq5
              have gn : ¬ T ≤ p := by omega
              go_wp2_with fail
              go_quiet (fail)
              go_wp2_with (first | (at_delete; refine wpList_delO Try.underlying54 _ rfl _ _ rfl (HMq.out.block rfl) h8 rfl rfl ?_; intro w1' hm1 hg1; have M1 := hide hm1; have G1 := hide hg1; clear hm1 hg1) | go_in)
              go_roundw
              case rel =>
                refine ⟨i + 1, hlt, vi_b, by rw [HEH.out], by rw [HET.out]; exact M1.out.more (Nat.le_succ _), tm_out hh HO.out HET.out, (below_dn HBq.out _).grown G1.out HBq.out.size (fun q hq => by cases hq; exact Nat.le_refl _)⟩
              case measure => exact meas_b hlt
            · as_aux_lemma =>
              rw [hHi] at eH
              have HEH := hide eH
              have HET := hide eT
              have HHI := hide hHi
              have REL : Hid (LZ r P k w7.heap.size w7 (.int .u64 (Hi : Int)) (.int .i64 ((i : Int) + 1)) Wq) := ⟨i + 1, hlt, vi_b, by rw [eH], by rw [eT]; exact HMq.out.more (Nat.le_succ _), fun h hh => by rw [eT]; exact HO.out h hh, HBq.out⟩
              have HNA := hide nA
              have HNB := hide nB
              clear eH eT LE1 hHi nA nB e22
              by_cases t1 : xt = 1
              · subst t1
                have gr : ¬ 2 + (r : Int) ≤ 1 := no_ge1 r
                by_cases a5 : xa = 5
                · subst a5
                  obtain rfl : xo = false := by cases xo; rfl; exact absurd ⟨rfl, rfl, rfl⟩ HNA.out
                  go_wp2_with fail
                  go_roundw
                  case rel => first | exact REL.out | exact LZ.set REL.out lq2
                  case measure => exact meas_b hlt
                · have a5' : (xa == 5) = false := by simpa using a5
                  by_cases a1 : xa = 1
                  · subst a1
                    go_wp2_with fail
                    go_roundw
                    case rel => exact REL.out
                    case measure => exact meas_b hlt
                  · have a1' : (xa == 1) = false := by simpa using a1
                    go_wp2_with fail
                    go_roundw
                    case rel => exact REL.out
                    case measure => exact meas_b hlt
              · have t1' : (xt == 1) = false := by simpa using t1
                by_cases a1 : xa = 1
                · subst a1
                  have gr : ¬ 2 + (r : Int) ≤ xt := fun t => HNB.out ⟨rfl, t⟩
                  go_wp2_with fail
                  go_roundw
                  case rel => exact REL.out
                  case measure => exact meas_b hlt
                · have a1' : (xa == 1) = false := by simpa using a1
                  go_wp2_with fail
                  go_roundw
                  case rel => exact REL.out
                  case measure => exact meas_b hlt
          · as_aux_lemma =>
            obtain rfl : i = k := by omega
            have e0 := HHh.out
            have LN : ∀ ty, (Builtin.len_ #[54] ty #[.map (some w7.heap.size)]).run Try.prog wr = .ok (.int .i64 0) wr := fun ty => HM.out.len0 Try.underlying54 (fun h hh => by
              rcases Nat.lt_or_ge h P.nh with l | l
              · exact TE.out h l
              · exact HO.out h l) ty
            have uH : IntKind.u64.wrap (Hh : Int) = (Hh : Int) := by have := HTB.out; rw [IntKind.wrap_u64]; omega
            rw [e0]
            clear e0
            go_wp2_with fail
            go_ret
            exact ⟨rfl, HBw7.out.trans (HBr.out.mono HBw7.out.size)⟩
    · have B6 := hide ((keep.out W5 BW5.out).1)
      have her' : (er != 0) = true := by simpa using her
      go_wp2_with fail
      go_ret
      exact ⟨rfl, B6.out⟩
end Belt
end Go.Proofs.Ytchhkoalibapiaa
