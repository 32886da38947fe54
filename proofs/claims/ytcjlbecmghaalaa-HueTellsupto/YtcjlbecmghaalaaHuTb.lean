/-
  Hue: the document's hues
-/
import Derived.Test.YtcjlbecmghaalaaHuTa
namespace Go.Proofs.Ytcjlbecmghaalaa
open Go.RowKit
set_option linter.unusedVariables false
set_option linter.unusedSimpArgs false
set_option linter.unnecessarySimpa false
set_option maxRecDepth 20000
namespace Hu
open Gr
set_option maxHeartbeats 8000000 in
theorem hues_ok {c : Vc} {a : Av} {w : World} {gl bs : List Int} {ba : Option Addr} {bc : Nat} (hS : Sob w a.oa c.os) (hB : Bd c.os) (hng : a.ng = gl.length) (hG : SeesN w a.ga gl) (hL : SeesN w ba bs) (hgl : gl.length ≤ 17592186044416) (hbl : bs.length ≤ 17592186044416) :
    Calls Try.prog 42 #[vl c a, .slice ba bs.length bc] w fun e w' => Nt w w' e (hs c.os (gl ++ bs) c.os.length) := by
  obtain ⟨W0, hW0, B0, R0⟩ := vbox w c a
  have VF := hide (fun (wx : World) (hb : Below W0.heap.size W0 wx) => vcells (row_on R0 hb))
  have HB0 := hide B0
  have HS0 := hide (hS.below B0)
  have l0 : w.heap.size < W0.heap.size := R0.lt
  have hno := hB.no
  have AG := hide (fun (x : Int) (wx : World) (hb : Below w.heap.size w wx) => among_ok (lc := a.cg) (hG.below hb) hgl x)
  have AB := hide (fun (x : Int) (wx : World) (hb : Below w.heap.size w wx) => among_ok (lc := bc) (hL.below hb) hbl x)
  have UPW := hide (fun (wx : World) (hb : Below W0.heap.size W0 wx) => show Below w.heap.size w wx from HB0.out.trans (hb.mono HB0.out.size))
  clear hS hB hG hL B0 R0
  obtain ⟨ph, co, ro, aa, na, ca, ra, cr, wa, nw, cw, oa, cb, fa, nf, cf, ga, ng, cg, qa, cq, k0, k1, k2, k3⟩ := a
  simp only [vl] at ⊢
  simp only at hW0 VF HS0 hng AG
  subst hng
  have HSL := hide (hs_len c.os (gl ++ bs) c.os.length)
  unfold Nt
  rw [HSL.out]
  obtain ⟨n, hn⟩ : ∃ n, c.os.length = n := ⟨_, rfl⟩
  obtain ⟨nr, hnre⟩ : ∃ nr, c.rs.length = nr := ⟨_, rfl⟩
  obtain ⟨nqz, hnqe⟩ : ∃ nqz, c.qu.length = nqz := ⟨_, rfl⟩
  obtain ⟨ngl, hngl⟩ : ∃ ngl, gl.length = ngl := ⟨_, rfl⟩
  obtain ⟨nbs, hnbs⟩ : ∃ nbs, bs.length = nbs := ⟨_, rfl⟩
  simp only [hn, hnre, hnqe, hngl, hnbs] at hW0 VF hno AG AB ⊢
  obtain ⟨ws, hws⟩ : ∃ ws, gl ++ bs = ws := ⟨_, rfl⟩
  have MEM := hide (show ∀ x, x ∈ ws ↔ x ∈ gl ∨ x ∈ bs from fun x => by rw [← hws]; exact List.mem_append)
  obtain ⟨os, hos⟩ : ∃ os, c.os = os := ⟨_, rfl⟩
  rw [hos] at HS0 hn
  simp only [hos, hws] at ⊢
  have Hn := hide hn
  clear hn hnre hnqe hos hngl hnbs hws hgl hbl HSL
  obtain ⟨iI, hiI, hzI, hsI, hyI⟩ := infoI
  obtain ⟨z, hz⟩ : ∃ z, W0.heap.size = z := ⟨_, rfl⟩
  have Hz := hide hz
  rw [hz] at l0
  clear hz
  go_enter Try.func42, Try.ntmps42
  go_wp2_with fail
  clear hW0
  go_loopw [5, 6] (fun v i wr => ∃ (k : Nat), k ≤ n ∧ i = .int .i64 ((k : Int) + 1) ∧ Hid (wr.ownsRow z 3 1 v k (ncs (hs os ws k))) ∧ Hid (Below z W0 wr)) (fun _ i _ => n + 1 - (intOf i).toNat)
  case atStart => exact ⟨0, Nat.zero_le _, rfl, ⟨rfl, .inl ⟨rfl, rfl⟩⟩, Below.refl _ _⟩
  case round =>
    obtain ⟨k, hk, rfl, HO, HB⟩ := hrel
    obtain ⟨la, cp, rfl⟩ := own_slice HO.out
    have HBw := hide (show Below W0.heap.size W0 wr by rw [Hz.out]; exact HB.out)
    have hzw : z ≤ wr.heap.size := by have := HB.out.size; rw [Hz.out] at this; exact this
    have x6 := (VF.out wr HBw.out).2.2.2.2.2.2.1
    by_cases hlt : k < n
    · have hkn : (k : Int) + 1 ≤ (n : Int) := by omega
      have hkn2 : (k : Int) < (n : Int) := by omega
      obtain ⟨o, ho⟩ : ∃ o, os[k]? = some o := ⟨os[k]'(by rw [Hn.out]; exact hlt), by simp [Hn.out, hlt]⟩
      obtain ⟨bo, off, ai, ci, hoa, hbl2, hoc, hse⟩ := HS0.out.below HBw.out k o ho
      subst hoa
      obtain ⟨o0, o1, o2, o3, o4, o5, o6, o7, o8⟩ := Ob.cells9 hoc
      have ST := hide (show hs os ws (k + 1) = hs os ws k ++ [col os ws k] from rfl)
      have CC := col_cases ws ho
      obtain ⟨l, hl⟩ : ∃ l, hs os ws k = l := ⟨_, rfl⟩
      rw [hl] at HO ST
      obtain ⟨us, li, fi, ta, ag, ge, lk, nx, sl⟩ := o
      simp only at o0 o1 o2 o3 o4 o5 o6 o7 o8 CC
      obtain ⟨m, hm⟩ : ∃ m, sl.length = m := ⟨_, rfl⟩
      rw [hm] at o8
      obtain ⟨W4, hW4, B4', R4⟩ := obox wr us li fi ta ag ge lk nx ai m ci
      have B4 := hide (show Below z W0 W4 from HB.out.trans (B4'.mono hzw))
      have B4w := hide (show Below W0.heap.size W0 W4 by rw [Hz.out]; exact B4.out)
      have hz4 : z ≤ W4.heap.size := Nat.le_trans hzw B4'.size
      have O4 := hide (owns_on HO.out B4')
      have p0 : W4.cell? ⟨wr.heap.size, 0, none⟩ = some (.bool us) := R4.cell (i := 0) (by decide)
      have p1 : W4.cell? ⟨wr.heap.size, 1, none⟩ = some (.bool li) := R4.cell (i := 1) (by decide)
      have x84 := (VF.out W4 B4w.out).2.2.2.2.2.2.2.2.1
      clear hoc hse ho hl hm B4' R4
      rcases CC with ⟨hu, hcv⟩ | ⟨hu, hli, hcv⟩ | ⟨hu, hli, hin, hcv⟩ | ⟨hu, hli, hin, hcv⟩
      · subst hu
        have ST2 := hide (show hs os ws (k + 1) = l ++ [0] by rw [ST.out, hcv])
        clear hcv ST
        have O3 := hide (show (W4.alloc (.cells #[.int .i64 0] 3)).ownsRow z 3 1 (.slice la k cp) k (ncs l) from owns_on O4.out ((Below.refl _ W4).alloc (Nat.le_refl _) _))
        go_wp2_with (first
          | (at_builtin; refine wpList_append_own_at _ rfl (.tmp 28) (.tmp 29) 26 rfl z 3 iI (.int .i64 0) 1 8 Try.underlying26 hiI hzI hsI hyI rfl (by decide) (.slice la k cp) k (ncs l) rfl O3.out ⟨W4.heap.size, 0, none⟩ 1 1 (ncs [0]) rfl rfl (fun j v hj => by rw [Go.WideShapes.add_plain]; have hj1 : j < 1 := (by have := (List.getElem?_eq_some_iff.1 hj).1; simpa [ncs] using this); (obtain rfl : j = 0 := (by omega)); simp [ncs] at hj; rw [← hj]; simp) (ncs_one _) (by unfold maxLen; omega) (by omega) (by simp; omega) ?_; intro v2 w2 hown hgr _ _; obtain ⟨la3, cp3, rfl⟩ := own_slice hown; have HO4 := hide hown; have HB4 := hide (Gr.below_grown (B4.out.alloc hz4 (.cells #[.int .i64 0] 3)) O3.out hgr (by simp; omega)); clear hown hgr))
        go_roundw
        case rel =>
          refine ⟨k + 1, by omega, by go_num, ?_, HB4.out⟩
          show World.ownsRow _ _ _ _ _ _ _
          rw [ST2.out, ncs_app]
          exact HO4.out
        case measure => simp [intOf]; omega
      · subst hu
        subst hli
        have ST2 := hide (show hs os ws (k + 1) = l ++ [1] by rw [ST.out, hcv])
        clear hcv ST
        have O3 := hide (show (W4.alloc (.cells #[.int .i64 1] 3)).ownsRow z 3 1 (.slice la k cp) k (ncs l) from owns_on O4.out ((Below.refl _ W4).alloc (Nat.le_refl _) _))
        go_wp2_with (first
          | (at_builtin; refine wpList_append_own_at _ rfl (.tmp 35) (.tmp 36) 26 rfl z 3 iI (.int .i64 0) 1 8 Try.underlying26 hiI hzI hsI hyI rfl (by decide) (.slice la k cp) k (ncs l) rfl O3.out ⟨W4.heap.size, 0, none⟩ 1 1 (ncs [1]) rfl rfl (fun j v hj => by rw [Go.WideShapes.add_plain]; have hj1 : j < 1 := (by have := (List.getElem?_eq_some_iff.1 hj).1; simpa [ncs] using this); (obtain rfl : j = 0 := (by omega)); simp [ncs] at hj; rw [← hj]; simp) (ncs_one _) (by unfold maxLen; omega) (by omega) (by simp; omega) ?_; intro v2 w2 hown hgr _ _; obtain ⟨la3, cp3, rfl⟩ := own_slice hown; have HO4 := hide hown; have HB4 := hide (Gr.below_grown (B4.out.alloc hz4 (.cells #[.int .i64 1] 3)) O3.out hgr (by simp; omega)); clear hown hgr))
        go_roundw
        case rel =>
          refine ⟨k + 1, by omega, by go_num, ?_, HB4.out⟩
          show World.ownsRow _ _ _ _ _ _ _
          rw [ST2.out, ncs_app]
          exact HO4.out
        case measure => simp [intOf]; omega
      · subst hu
        subst hli
        have hin2 := (MEM.out _).1 hin
        have AGX := hide (AG.out ((k : Int) + 1) W4 (UPW.out _ B4w.out))
        have ABX := hide (AB.out ((k : Int) + 1) W4 (UPW.out _ B4w.out))
        by_cases hg : ((k : Int) + 1) ∈ gl
        · have hgd : decide (((k : Int) + 1) ∈ gl) = true := by simp [hg]
          rw [hgd] at AGX
          clear hg hgd hin hin2
          have ST2 := hide (show hs os ws (k + 1) = l ++ [2] by rw [ST.out, hcv])
          clear hcv ST
          have O3 := hide (show (W4.alloc (.cells #[.int .i64 2] 3)).ownsRow z 3 1 (.slice la k cp) k (ncs l) from owns_on O4.out ((Below.refl _ W4).alloc (Nat.le_refl _) _))
          go_wp2_with (first
            | (at_builtin; refine wpList_append_own_at _ rfl (.tmp 48) (.tmp 49) 26 rfl z 3 iI (.int .i64 0) 1 8 Try.underlying26 hiI hzI hsI hyI rfl (by decide) (.slice la k cp) k (ncs l) rfl O3.out ⟨W4.heap.size, 0, none⟩ 1 1 (ncs [2]) rfl rfl (fun j v hj => by rw [Go.WideShapes.add_plain]; have hj1 : j < 1 := (by have := (List.getElem?_eq_some_iff.1 hj).1; simpa [ncs] using this); (obtain rfl : j = 0 := (by omega)); simp [ncs] at hj; rw [← hj]; simp) (ncs_one _) (by unfold maxLen; omega) (by omega) (by simp; omega) ?_; intro v2 w2 hown hgr _ _; obtain ⟨la3, cp3, rfl⟩ := own_slice hown; have HO4 := hide hown; have HB4 := hide (Gr.below_grown (B4.out.alloc hz4 (.cells #[.int .i64 2] 3)) O3.out hgr (by simp; omega)); clear hown hgr)
            | (go_at_call 60; refine AGX.out.mono ?_; rintro e w1 ⟨rfl, hq⟩; obtain rfl := hq.symm; clear hq))
          go_roundw
          case rel =>
            refine ⟨k + 1, by omega, by go_num, ?_, HB4.out⟩
            show World.ownsRow _ _ _ _ _ _ _
            rw [ST2.out, ncs_app]
            exact HO4.out
          case measure => simp [intOf]; omega
        · have hgd : decide (((k : Int) + 1) ∈ gl) = false := by simp [hg]
          have hbd : decide (((k : Int) + 1) ∈ bs) = true := by rcases hin2 with h | h; exact absurd h hg; simp [h]
          rw [hgd] at AGX
          rw [hbd] at ABX
          clear hg hgd hin hin2 hbd
          have ST2 := hide (show hs os ws (k + 1) = l ++ [2] by rw [ST.out, hcv])
          clear hcv ST
          have O3 := hide (show (W4.alloc (.cells #[.int .i64 2] 3)).ownsRow z 3 1 (.slice la k cp) k (ncs l) from owns_on O4.out ((Below.refl _ W4).alloc (Nat.le_refl _) _))
          go_wp2_with (first
            | (at_builtin; refine wpList_append_own_at _ rfl (.tmp 48) (.tmp 49) 26 rfl z 3 iI (.int .i64 0) 1 8 Try.underlying26 hiI hzI hsI hyI rfl (by decide) (.slice la k cp) k (ncs l) rfl O3.out ⟨W4.heap.size, 0, none⟩ 1 1 (ncs [2]) rfl rfl (fun j v hj => by rw [Go.WideShapes.add_plain]; have hj1 : j < 1 := (by have := (List.getElem?_eq_some_iff.1 hj).1; simpa [ncs] using this); (obtain rfl : j = 0 := (by omega)); simp [ncs] at hj; rw [← hj]; simp) (ncs_one _) (by unfold maxLen; omega) (by omega) (by simp; omega) ?_; intro v2 w2 hown hgr _ _; obtain ⟨la3, cp3, rfl⟩ := own_slice hown; have HO4 := hide hown; have HB4 := hide (Gr.below_grown (B4.out.alloc hz4 (.cells #[.int .i64 2] 3)) O3.out hgr (by simp; omega)); clear hown hgr)
            | (go_at_call_of 60 (Value.slice ga ngl cg); refine AGX.out.mono ?_; rintro e w1 ⟨rfl, hq⟩; obtain rfl := hq.symm; clear hq)
            | (go_at_call_of 60 (Value.slice ba nbs bc); refine ABX.out.mono ?_; rintro e w1 ⟨rfl, hq⟩; obtain rfl := hq.symm; clear hq))
          go_roundw
          case rel =>
            refine ⟨k + 1, by omega, by go_num, ?_, HB4.out⟩
            show World.ownsRow _ _ _ _ _ _ _
            rw [ST2.out, ncs_app]
            exact HO4.out
          case measure => simp [intOf]; omega
      · subst hu
        subst hli
        have AGX := hide (AG.out ((k : Int) + 1) W4 (UPW.out _ B4w.out))
        have ABX := hide (AB.out ((k : Int) + 1) W4 (UPW.out _ B4w.out))
        have hgd : decide (((k : Int) + 1) ∈ gl) = false := by simp; exact fun h => hin ((MEM.out _).2 (.inl h))
        have hbd : decide (((k : Int) + 1) ∈ bs) = false := by simp; exact fun h => hin ((MEM.out _).2 (.inr h))
        rw [hgd] at AGX
        rw [hbd] at ABX
        clear hgd hin hbd
        have ST2 := hide (show hs os ws (k + 1) = l ++ [3] by rw [ST.out, hcv])
        clear hcv ST
        have O3 := hide (show (W4.alloc (.cells #[.int .i64 3] 3)).ownsRow z 3 1 (.slice la k cp) k (ncs l) from owns_on O4.out ((Below.refl _ W4).alloc (Nat.le_refl _) _))
        go_wp2_with (first
          | (at_builtin; refine wpList_append_own_at _ rfl (.tmp 21) (.tmp 22) 26 rfl z 3 iI (.int .i64 0) 1 8 Try.underlying26 hiI hzI hsI hyI rfl (by decide) (.slice la k cp) k (ncs l) rfl O3.out ⟨W4.heap.size, 0, none⟩ 1 1 (ncs [3]) rfl rfl (fun j v hj => by rw [Go.WideShapes.add_plain]; have hj1 : j < 1 := (by have := (List.getElem?_eq_some_iff.1 hj).1; simpa [ncs] using this); (obtain rfl : j = 0 := (by omega)); simp [ncs] at hj; rw [← hj]; simp) (ncs_one _) (by unfold maxLen; omega) (by omega) (by simp; omega) ?_; intro v2 w2 hown hgr _ _; obtain ⟨la3, cp3, rfl⟩ := own_slice hown; have HO4 := hide hown; have HB4 := hide (Gr.below_grown (B4.out.alloc hz4 (.cells #[.int .i64 3] 3)) O3.out hgr (by simp; omega)); clear hown hgr)
          | (go_at_call_of 60 (Value.slice ga ngl cg); refine AGX.out.mono ?_; rintro e w1 ⟨rfl, hq⟩; obtain rfl := hq.symm; clear hq)
          | (go_at_call_of 60 (Value.slice ba nbs bc); refine ABX.out.mono ?_; rintro e w1 ⟨rfl, hq⟩; obtain rfl := hq.symm; clear hq))
        go_roundw
        case rel =>
          refine ⟨k + 1, by omega, by go_num, ?_, HB4.out⟩
          show World.ownsRow _ _ _ _ _ _ _
          rw [ST2.out, ncs_app]
          exact HO4.out
        case measure => simp [intOf]; omega
    · have hkn : ¬ (k : Int) + 1 ≤ (n : Int) := by omega
      obtain rfl : k = n := by omega
      go_wp2_with fail
      go_ret
      exact ⟨_, _, rfl, owns_low HO.out (by omega), HB0.out.trans (HB.out.mono (by omega))⟩
end Hu
end Go.Proofs.Ytcjlbecmghaalaa
