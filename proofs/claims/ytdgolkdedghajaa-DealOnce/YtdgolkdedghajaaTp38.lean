/-
  Lemmas: DealOW.
-/
import Derived.Test.YtdgolkdedghajaaTp35
import Derived.Test.YtdgolkdedghajaaTp37
import Derived.Deep.CutBlock
import Derived.Deep.CutRange
/-
  DealOnce: the law's own walk.
-/
namespace Go.Proofs.Ytdgolkdedghajaa
open Go.RowKit PKept
set_option linter.unusedVariables false
set_option linter.unusedSimpArgs false
set_option linter.unnecessarySimpa false
set_option maxRecDepth 20000
namespace Deal

/-- Where the law is behind the first i of what is told: its list. -/
theorem tr_step {E : List (Int × Ans)} {i : Nat} {L LE : List Int} {e : Int × Ans} (hi : E[i]? = some e) (h0 : Tr (E.drop i) L = some LE) :
    (e.2.ok = false → e.2.val = 0 ∧ Tr (E.drop (i + 1)) L = some LE) ∧ (e.2.ok = true → e.1 = 1 → Tr (E.drop (i + 1)) (L ++ [e.2.val]) = some LE) ∧ (e.2.ok = true → ¬ e.1 = 1 → e.2.val ∈ L ∧ Tr (E.drop (i + 1)) (L.erase e.2.val) = some LE) := by
  have hd : E.drop i = e :: E.drop (i + 1) := by
    obtain ⟨h1, h2⟩ := List.getElem?_eq_some_iff.1 hi
    rw [List.drop_eq_getElem_cons h1, h2]
  rw [hd] at h0
  unfold Tr at h0
  refine ⟨fun o => ?_, fun o k => ?_, fun o k => ?_⟩
  · rw [if_neg (by rw [o]; simp)] at h0
    split at h0
    · rename_i v; exact ⟨v, h0⟩
    · cases h0
  · rw [if_pos o, if_pos k] at h0
    exact h0
  · rw [if_pos o, if_neg k] at h0
    split at h0
    · rename_i v; exact ⟨v, h0⟩
    · cases h0
theorem tr_len : ∀ (E : List (Int × Ans)) (L LE : List Int), Tr E L = some LE → LE.length ≤ L.length + E.length
  | [], L, LE, h => by have h : L = LE := by simpa [Tr] using h
                       subst h; simp
  | e :: E, L, LE, h => by
    unfold Tr at h
    split at h
    · split at h
      · have := tr_len E _ _ h; simp at this ⊢; omega
      · split at h
        · have := tr_len E _ _ h; have l := List.length_erase_le (a := e.2.val) (l := L); simp at this ⊢; omega
        · cases h
    · split at h
      · have := tr_len E _ _ h; simp at this ⊢; omega
      · cases h
theorem own_mono {w : World} {base b' : Nat} {e : TypeId} {size : Nat} {v : Value} {n : Nat} {xs : List Value} (h : w.ownsRow base e size v n xs) (hb : b' ≤ base) : w.ownsRow b' e size v n xs := by
  obtain ⟨hl, h | ⟨g, cap, cur, rfl, hg, rest⟩⟩ := h
  · exact ⟨hl, .inl h⟩
  · exact ⟨hl, .inr ⟨g, cap, cur, rfl, by omega, rest⟩⟩
theorem sm_le (f : Nat → Nat) (b : Nat) : ∀ n, (∀ i, i < n → f i ≤ b) → sm f n ≤ n * b
  | 0, _ => by simp [sm]
  | n + 1, h => by
    show sm f n + f n ≤ _
    have := sm_le f b n (fun i hi => h i (by omega))
    have := h n (by omega)
    rw [Nat.succ_mul]
    omega

set_option maxHeartbeats 16000000 in
theorem once_walk {w : World} {sh : Shp} {aw aoh aos : Option Addr} {nw cw caph caps : Nat} {P : Par} {most : Int} {r : Nat} (hr : 1 ≤ sh.f ∧ sh.f ≤ 64 → sh.f = (r : Int) ∧ P.n = 2 + r) (SH : SeesH w w.heap.size aoh P.nh P.jn P.jb) (hn63 : P.nh ≤ 9223372036854775807) (SI : SeesI w w.heap.size aos P.ns P.sched) (hjw : ∀ h, h < P.nh → ∀ j, j < P.jn h → (P.jb h j).wf) :
    Calls Try.prog 3 #[.agg #[.int .i64 sh.a, .int .i64 sh.b, .int .i64 sh.c, .int .i64 sh.d, .int .i64 sh.e, .int .i64 sh.f, .slice aw nw cw, .slice aoh P.nh caph, .slice aos P.ns caps, .int .i64 most]] w fun e w' => e = .returned (.bool true) ∧ Below w.heap.size w w' := by
  have AL := hide alive_any
  have FR := hide (fun (w1 : World) (B1 : Below w.heap.size w w1) => freshF_any (w := w1) (aw := aw) (nw := nw) (cw := cw) (caph := caph) (caps := caps) (most := most) (sh := sh) (P := P) (fun h => by rw [(hr h).1, (hr h).2]; simp) ((SH.below B1 (Nat.le_refl _)).up B1.size) hn63 ((SI.below B1 (Nat.le_refl _)).up B1.size) hjw)
  have SE0 := hide (fun base er sa k sc wa n wc en aa m ac (w' : World) (h : TF sh P most base er sa k sc wa n wc en aa m ac w') => And.intro (se_of hr h) (fun h0 : er = 0 => (hr (h h0).1).1))
  have HSH := hide SH
  obtain ⟨TBx, hTB⟩ : ∃ TBx, TF sh P most = TBx := ⟨_, rfl⟩
  rw [hTB] at FR SE0
  obtain ⟨s0, s1, s2, s3, s4, s5⟩ := sh
  simp only at FR SE0 ⊢
  clear SH SI hjw hn63 hr hTB
  obtain ⟨W0, hW0⟩ : ∃ W0, w.alloc (.cells #[.int .i64 s0, .int .i64 s1, .int .i64 s2, .int .i64 s3, .int .i64 s4, .int .i64 s5, .slice aw nw cw, .slice aoh P.nh caph, .slice aos P.ns caps, .int .i64 most] 28) = W0 := ⟨_, rfl⟩
  have R0 : W0.rowIs w.heap.size 28 10 (lrow [.int .i64 s0, .int .i64 s1, .int .i64 s2, .int .i64 s3, .int .i64 s4, .int .i64 s5, .slice aw nw cw, .slice aoh P.nh caph, .slice aos P.ns caps, .int .i64 most]) := by rw [← hW0]; exact rowL_alloc w [.int .i64 s0, .int .i64 s1, .int .i64 s2, .int .i64 s3, .int .i64 s4, .int .i64 s5, .slice aw nw cw, .slice aoh P.nh caph, .slice aos P.ns caps, .int .i64 most] _ rfl
  have B0 : Below w.heap.size w W0 := by rw [← hW0]; exact (Below.refl _ w).alloc (Nat.le_refl _) _
  have keep : Hid (∀ w' : World, Below W0.heap.size W0 w' → Below w.heap.size w w' ∧ w.heap.size < w'.heap.size ∧ w'.cell? ⟨w.heap.size, 0, none⟩ = some (.int .i64 s0) ∧ w'.cell? ⟨w.heap.size, 1, none⟩ = some (.int .i64 s1) ∧ w'.cell? ⟨w.heap.size, 2, none⟩ = some (.int .i64 s2) ∧ w'.cell? ⟨w.heap.size, 3, none⟩ = some (.int .i64 s3) ∧ w'.cell? ⟨w.heap.size, 4, none⟩ = some (.int .i64 s4) ∧ w'.cell? ⟨w.heap.size, 5, none⟩ = some (.int .i64 s5) ∧ w'.cell? ⟨w.heap.size, 6, none⟩ = some (.slice aw nw cw) ∧ w'.cell? ⟨w.heap.size, 7, none⟩ = some (.slice aoh P.nh caph) ∧ w'.cell? ⟨w.heap.size, 8, none⟩ = some (.slice aos P.ns caps) ∧ w'.cell? ⟨w.heap.size, 9, none⟩ = some (.int .i64 most)) := fun w' hb => by
    have q := R0.of_block (hb.block w.heap.size R0.lt)
    exact ⟨B0.trans (hb.mono B0.size), q.lt, q.cell (i := 0) (by decide), q.cell (i := 1) (by decide), q.cell (i := 2) (by decide), q.cell (i := 3) (by decide), q.cell (i := 4) (by decide), q.cell (i := 5) (by decide), q.cell (i := 6) (by decide), q.cell (i := 7) (by decide), q.cell (i := 8) (by decide), q.cell (i := 9) (by decide)⟩
  clear R0 B0
  go_enter Try.func3, Try.ntmps3
  go_wp2_with fail
  refine (AL.out W0).mono ?_
  rintro e w1 ⟨rfl, hb1⟩
  have B1 := hide hb1
  clear hb1 hW0 AL
  obtain ⟨Bw1, l1, c0, c1, c2, c3, c4, c5, c6, c7, c8, c9⟩ := keep.out w1 B1.out
  have HBw1 := hide Bw1
  clear Bw1
  go_wp2_with fail
  refine (FR.out w1 HBw1.out).mono ?_
  rintro e w2 ⟨hb2, sa, k, sc, wa, n, wcp, en, aa, m, ac, er, rfl, hT⟩
  have SEv := hide (SE0.out _ _ _ _ _ _ _ _ _ _ _ _ _ hT)
  have B2 := hide (B1.out.trans (hb2.mono B1.out.size))
  clear hb2 hT SE0 FR HBw1 c0 c1 c2 c3 c4 c5 c6 c7 c8 c9 l1
  have s02 := B2.out.size
  obtain ⟨W3, hW3⟩ : ∃ W3, w2.alloc (.cells #[.slice sa k sc, .slice wa n wcp, .bool en] 32) = W3 := ⟨_, rfl⟩
  have R3 := hide (show W3.rowIs w2.heap.size 32 3 (lrow [.slice sa k sc, .slice wa n wcp, .bool en]) from by rw [← hW3]; exact rowL_alloc w2 [.slice sa k sc, .slice wa n wcp, .bool en] _ rfl)
  have B23 := hide (show Below w2.heap.size w2 W3 from by rw [← hW3]; exact (Below.refl _ w2).alloc (Nat.le_refl _) _)
  have B3 := hide (B2.out.trans (B23.out.mono B2.out.size))
  clear s02
  go_upto_region 4 with (fail)
  try rw [hW3]
  clear hW3
  obtain ⟨Bw3, l1, c0, c1, c2, c3, c4, c5, c6, c7, c8, c9⟩ := keep.out W3 B3.out
  have HBw3 := hide Bw3
  clear Bw3
  by_cases he : er = 0
  · subst he
    obtain ⟨SE1, e5⟩ := SEv.out
    obtain ⟨⟨h1, h2⟩, hPn, hm0, hnh, hjn, hdl, hok, hk, hm, hn, hen, SS, SW, SA⟩ := SE1 rfl
    have e5 := e5 rfl
    subst e5
    obtain rfl : n = 2 + r := hn.trans hPn
    subst hm
    rw [hPn] at SW
    obtain ⟨m0, hm0'⟩ : ∃ m0, most.toNat = m0 := ⟨_, rfl⟩
    rw [hm0'] at hm0 hdl hk hen SS SW SA
    have TLD := hide (told_ok (w := W3) (s0 := s0) (s1 := s1) (s2 := s2) (s3 := s3) (s4 := s4) (aw := aw) (nw := nw) (cw := cw) (caph := caph) (aos := aos) (caps := caps) (most := most) (sc := sc) (wa := wa) (n := 2 + r) (wc := wcp) (en0 := en) (ac := ac) ⟨h1, h2⟩ hPn hm0 hnh hjn hok hk ((HSH.out.below HBw3.out (Nat.le_refl _)).up HBw3.out.size) (fun j hj => by obtain ⟨b, off, e, l, c⟩ := (SS.below B23.out (Nat.le_refl _)) j hj; exact ⟨b, off, e, Nat.lt_of_lt_of_le l B23.out.size, c⟩) ((SA.below B23.out (Nat.le_refl _)).mono B23.out.size))
    have HSA := hide SA
    have HSW := hide SW
    have HRN := hide (And.intro h1 h2)
    have HNH := hide hnh
    have HDL := hide (show ∀ h, h < P.nh → (rn r P m0).done h ≤ 256 from fun h hh => Nat.le_trans (hdl h hh) (hjn h hh))
    have HEN := hide hen
    have HK := hide (show k ≤ 65536 from by rw [hk]; have := (runSt_k P (st0 (kDeal r) P (fun _ => 0)) rfl m0).1; show (runSt P (st0 (kDeal r) P (fun _ => 0)) m0).k ≤ 65536; omega)
    have t0 : W3.cell? ⟨w2.heap.size, 0, none⟩ = some (.slice sa k sc) := R3.out.cell (i := 0) (by decide)
    have t1 : W3.cell? ⟨w2.heap.size, 1, none⟩ = some (.slice wa (2 + r) wcp) := R3.out.cell (i := 1) (by decide)
    have t2 : W3.cell? ⟨w2.heap.size, 2, none⟩ = some (.bool en) := R3.out.cell (i := 2) (by decide)
    have lt3 := R3.out.lt
    clear SE1 SEv SS SW SA hok hjn hdl hen hk hm0 hm0' hPn hn hnh h1 h2 HSH
    go_wp2_with fail
    refine TLD.out.mono ?_
    rintro e w4 ⟨hb4, lo, T, tcap, ml, md, rfl, hST, hDo⟩
    have B4 := hide (B3.out.trans (hb4.mono B3.out.size))
    have B34 := hide hb4
    have HST := hide hST
    have HDO := hide hDo
    obtain ⟨Bw4, l1, -, -, -, -, -, c5, -, c7, -, -⟩ := keep.out w4 B4.out
    have t1 := (hb4.cell (p := ⟨w2.heap.size, 1, none⟩) lt3).trans t1
    have t2 := (hb4.cell (p := ⟨w2.heap.size, 2, none⟩) lt3).trans t2
    have lt4 := Nat.lt_of_lt_of_le lt3 hb4.size
    clear hb4 hST hDo TLD t0 c0 c1 c2 c3 c4 c6 c8 c9 Bw4
    obtain ⟨n2, hn2⟩ : ∃ n2, 2 + r = n2 := ⟨_, rfl⟩
    have e27 : wrap64 ((r : Int) + 2) = (n2 : Int) := by have := HRN.out; unfold wrap64; omega
    have HE27 := hide e27
    have HN2 := hide hn2
    rw [hn2] at t1 HSW
    clear hn2 e27
    have TL : (T.map ent).length = sm (rn r P m0).done P.nh := HDO.out.ln
    rw [List.length_map] at TL
    have TB8 : T.length ≤ 2048 := by
      rw [TL]
      have a := sm_le (rn r P m0).done 256 P.nh HDL.out
      have b := HNH.out
      omega
    have HTB := hide TB8
    have HTL := hide TL
    obtain ⟨LE, hLE⟩ := tr_do HDO.out
    have HLE := hide hLE
    clear TL hLE
    obtain ⟨i46, hi46, hz46, hs46, hy46⟩ := info46e
    have nhb : (P.nh : Int) ≤ 8 := by have := HNH.out; omega
    go_upto_region 9 with (fail)
    go_wp2_with fail
    go_loopw [8, 9, 10] (fun v8 v9 v10 wr => ∃ (i : Nat) (L : List Int), i ≤ T.length ∧ v10 = .int .i64 (i : Int) ∧ v9 = .int .i64 (i : Int) ∧ wr.ownsRow w4.heap.size 39 1 v8 L.length (wc L) ∧ Tr ((T.map ent).drop i) L = some LE ∧ L.length ≤ i ∧ Below w4.heap.size w4 wr) (fun _ _ v10 _ => T.length - (intOf v10).toNat)
    case atStart => exact ⟨0, [], Nat.zero_le _, rfl, rfl, World.ownsRow_nil _ _ _ _, HLE.out, Nat.le_refl 0, Below.refl _ _⟩
    case round =>
      obtain ⟨i, L, hi, rfl, rfl, ow, htr, hLi, hb⟩ := hrel
      obtain ⟨lo8, cp8, rfl⟩ := own_slice ow
      have HO := hide ow
      have HTR := hide htr
      have HLI := hide hLi
      have HB := hide hb
      clear ow htr hLi hb
      by_cases hlt : i < T.length
      · have hlt' : (i : Int) < T.length := by omega
        have ib : (i : Int) ≤ 2048 := by have := HTB.out; omega
        obtain ⟨t, ht⟩ : ∃ t, T[i]? = some t := ⟨_, List.getElem?_eq_getElem hlt⟩
        obtain ⟨b, rfl, lb, cb⟩ := (HST.out.below HB.out) i t ht
        obtain ⟨th, tk, ta, ao, av⟩ := t
        have x1 := cb 1 _ rfl
        have x3 := cb 3 _ rfl
        have x4 := cb 4 _ rfl
        have TS := hide (tr_step (E := T.map ent) (i := i) (e := (tk, ⟨ao, av⟩)) (by rw [List.getElem?_map, ht]; rfl) HTR.out)
        clear ht cb
        simp only at x1 x3 x4
        cases ao with
        | false =>
          obtain ⟨v0, tr'⟩ := TS.out.1 rfl
          have v0 : av = 0 := v0
          subst v0
          have HT' := hide tr'
          clear tr' TS
          go_wp2_with fail
          go_roundw
          case rel => exact ⟨i + 1, L, hlt, viG, viG, HO.out, HT'.out, by have := HLI.out; omega, HB.out⟩
          case measure => exact measG hlt
        | true =>
          by_cases k1 : tk = 1
          · subst k1
            have HT' := hide (TS.out.2.1 rfl rfl)
            have SD := hide (wc_more L av)
            clear TS
            go_wp2_with (at_builtin; refine wpList_append_opt rfl (.tmp 67) (.tmp 74) 24 rfl w4.heap.size 39 i46 (.int .u64 0) 1 8 Try.underlying24 hi46 hz46 hs46 hy46 rfl (by decide) (.slice lo8 L.length cp8) L.length (wc L) rfl (HO.out.alloc _) (some ⟨wr.heap.size, 0, none⟩) 1 1 [.int .u64 av] rfl (fun h => by cases h) rfl (fun ad had => by cases had; exact cells_new wr #[.int .u64 av] _) (by simp [Value.oneCell']) (by have := HLI.out; have := HTB.out; unfold maxLen; omega) (by have := HLI.out; have := HTB.out; omega) (by have := HB.out.size; simp; omega) ?_; intro v7 w7 hown7 hgrow7 hnn; rw [← SD.out] at hown7; have B7 := hide (show Below w4.heap.size w4 w7 from (HB.out.alloc HB.out.size _).grown hgrow7 (by have := HB.out.size; simp; omega) (fun q hq => (HO.out.lt q hq).1)); have O7 := hide hown7; clear hown7 hgrow7 hnn)
            go_roundw
            case rel => exact ⟨i + 1, L ++ [av], hlt, viG, viG, by rw [List.length_append]; exact O7.out, HT'.out, by have := HLI.out; rw [List.length_append]; simp; omega, B7.out⟩
            case measure => exact measG hlt
          · have k1' : (tk == 1) = false := by simpa using k1
            obtain ⟨hm, tr'⟩ := TS.out.2.2 rfl k1
            have HT' := hide tr'
            have LWL : LW wr lo8 L cp8 := by
              obtain ⟨lo', cp', e, S⟩ := LW.own HO.out
              cases e
              exact S
            have GN := hide (gone_ok LWL hm (by have := HLI.out; have := HTB.out; omega))
            clear TS tr' hm LWL k1
            go_wp2_with fail
            refine GN.out.mono ?_
            rintro e w5 ⟨v', rfl, ow, hb5⟩
            have O5 := hide (own_mono ow HB.out.size)
            have B5 := hide (HB.out.trans (hb5.mono HB.out.size))
            clear ow hb5
            go_wp2_with fail
            go_roundw
            case rel => exact ⟨i + 1, _, hlt, viG, viG, O5.out, HT'.out, by have := HLI.out; exact Nat.le_trans (List.length_erase_le ..) (by omega), B5.out⟩
            case measure => exact measG hlt
      · have e : i = T.length := by omega
        subst e
        have LL : L = LE := by
          have := HTR.out
          rw [List.drop_eq_nil_of_le (by simp)] at this
          simpa [Tr] using this
        subst LL
        obtain ⟨W5, hW5⟩ : ∃ W5, W5 = wr := ⟨_, rfl⟩
        subst hW5
        have B25 := hide (show Below w2.heap.size w2 W5 from B23.out.trans ((B34.out.trans (HB.out.mono B34.out.size)).mono B23.out.size))
        have t1 := (HB.out.cell (p := ⟨w2.heap.size, 1, none⟩) lt4).trans t1
        have t2 := (HB.out.cell (p := ⟨w2.heap.size, 2, none⟩) lt4).trans t2
        have lt5 := Nat.lt_of_lt_of_le lt4 HB.out.size
        obtain ⟨Bw5, l1, -, -, -, -, -, c5, -, -, -, -⟩ := keep.out W5 (B4.out.trans (HB.out.mono B4.out.size))
        have HBw5 := hide Bw5
        clear HTR Bw5 c7
        obtain ⟨tl, htl⟩ : ∃ tl, T.length = tl := ⟨_, rfl⟩
        rw [htl] at HTL HTB
        have LL8 := hide (show L.length ≤ 100000 from by have := HLI.out; rw [htl] at this; have := HTB.out; omega)
        have HTL' := hide htl
        rw [htl] at hi hlt
        rw [htl]
        clear htl HLI
        go_wp2_with fail
        go_loopw [9, 11] (fun v9 v11 wr => ∃ j : Nat, j ≤ P.nh ∧ v11 = .int .i64 (j : Int) ∧ v9 = .int .i64 ((tl : Int) - (sm (rn r P m0).done j : Nat)) ∧ wr = W5) (fun _ v11 _ => P.nh - (intOf v11).toNat)
        case atStart => exact ⟨0, Nat.zero_le _, rfl, by simp [sm], rfl⟩
        case round =>
          obtain ⟨j, hj, rfl, rfl, hw⟩ := hrel
          have hw' := hw.symm
          subst hw'
          clear hw
          by_cases hlj : j < P.nh
          · have hlj' : (j : Int) < P.nh := by omega
            obtain ⟨b, off, av, cv, rfl, lb, cb, -⟩ := ((HSA.out.below B25.out (Nat.le_refl _)).mono B25.out.size) j hlj
            obtain ⟨dj, hdj⟩ : ∃ dj, (rn r P m0).done j = dj := ⟨_, rfl⟩
            obtain ⟨sj, hsj⟩ : ∃ sj, sm (rn r P m0).done j = sj := ⟨_, rfl⟩
            have SN := hide (show sm (rn r P m0).done (j + 1) = sj + dj from by show sm (rn r P m0).done j + _ = _; rw [hsj, hdj])
            have sb : sj ≤ 2048 := by rw [← hsj]; have a := sm_le (rn r P m0).done 256 j (fun i hi => HDL.out i (by omega)); have b := HNH.out; omega
            have db : dj ≤ 256 := by rw [← hdj]; exact HDL.out j hlj
            have tb := HTB.out
            have e1 : wrap64 ((tl : Int) - sj - dj) = (tl : Int) - sj - dj := by unfold wrap64; omega
            rw [hdj] at cb
            rw [hsj]
            have HX := hide e1
            clear hdj hsj sb db tb
            go_wp2_with fail
            go_roundw
            case rel => exact ⟨j + 1, hlj, viG, by rw [SN.out]; congr 1; omega, (by first | trivial | rfl)⟩
            case measure => exact measG hlj
          · have e : j = P.nh := by omega
            subst e
            rw [← HTL.out]
            have e0 : ((tl : Int) - (tl : Nat)) = 0 := by omega
            rw [e0]
            have e27 := HE27.out
            clear e0
            cases en with
            | false =>
              go_wp2_with fail
              go_ret
              exact ⟨rfl, HBw5.out⟩
            | true =>
              have hc : cnt ((rn r P m0).going P) P.nh = 0 := by simpa using HEN.out.symm
              obtain ⟨LE', tr, f0, f1, f2, f3, pm⟩ := end_do (m := m0) HDO.out (fun h hh => all_done hc hh)
              have EL : LE' = L := by have := HLE.out; rw [tr] at this; injection this
              subst EL
              have SW5 : Sees W5 W5.heap.size wa n2 (rn r P m0).f := fun j hj => by obtain ⟨b, off, e, l, c⟩ := (HSW.out.below B25.out (Nat.le_refl _)) j hj; exact ⟨b, off, e, Nat.lt_of_lt_of_le l B25.out.size, c⟩
              have BW := hide (between_ok (cap := wcp) SW5 HN2.out.symm HRN.out.1 HRN.out.2 f0 f1 (by have := HK.out; omega) f3)
              have PM := hide pm
              have LWL := hide (show LW W5 lo8 LE' cp8 from by
                obtain ⟨lo', cp', e, S⟩ := LW.own HO.out
                cases e
                exact S)
              obtain ⟨Z, hZ⟩ : ∃ Z, std r (rn r P m0).f ((rn r P m0).f 0) ((rn r P m0).f 1 - (rn r P m0).f 0).toNat = Z := ⟨_, rfl⟩
              rw [hZ] at BW PM
              clear hc tr f0 f1 f2 f3 pm SW5 hZ HEN
              go_wp2_with fail
              refine BW.out.mono ?_
              rintro e w6 ⟨v', rfl, ow, hb6⟩
              obtain ⟨lo6, cp6, rfl, S6⟩ := LW.own ow
              have AK := hide (alike_ok (LWL.out.below hb6) S6 PM.out LL8.out)
              have B6 := hide (HBw5.out.trans (hb6.mono HBw5.out.size))
              clear ow hb6 S6
              go_wp2_with fail
              refine AK.out.mono ?_
              rintro e w7 ⟨rfl, hb7⟩
              have B7 := hide (B6.out.trans (hb7.mono B6.out.size))
              clear hb7
              go_wp2_with fail
              go_ret
              exact ⟨rfl, B7.out⟩
  · have he' : (er == 0) = false := by simpa using he
    go_wp2_with fail
    go_ret
    exact ⟨rfl, HBw3.out⟩
end Deal
end Go.Proofs.Ytdgolkdedghajaa
