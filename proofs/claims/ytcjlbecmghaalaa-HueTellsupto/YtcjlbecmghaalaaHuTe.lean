/-
  Hue: the document's Sorts
-/
import Derived.Test.YtcjlbecmghaalaaHuTc
import Derived.Test.YtcjlbecmghaalaaGrRc
import Derived.Deep.RegionLaw
namespace Go.Proofs.Ytcjlbecmghaalaa
open Go.RowKit
set_option linter.unusedVariables false
set_option linter.unusedSimpArgs false
set_option linter.unnecessarySimpa false
set_option maxRecDepth 20000
namespace Hu
open Gr
theorem infoIz : (Try.prog.info? 3).map (fun i => (i.zero, i.size, i.bytes)) = some (some (.int .i64 0), 1, 8) := by kernel_rfl
/-- The four lists under way: row L of four, each list in memory of its own from z on. -/
structure Ls (z L : Nat) (w : World) (os : List Ob) (ws : List Int) (k : Nat) (f : Nat → Value) : Prop where
  obj : ∃ t, w.heap[L]? = some (.cells #[f 0, f 1, f 2, f 3] t)
  own : ∀ j : Nat, j < 4 → w.ownsRow z 3 1 (f j) (nb os ws j k).length (ncs (nb os ws j k))
  ne : ∀ i j b : Nat, i < 4 → j < 4 → i ≠ j → (f i).ownBlock = some b → (f j).ownBlock ≠ some b
theorem Ls.cell {z L : Nat} {w : World} {os : List Ob} {ws : List Int} {k : Nat} {f : Nat → Value} (h : Ls z L w os ws k f) (j : Nat) (hj : j < 4) : w.cell? ⟨L, j, none⟩ = some (f j) := by
  obtain ⟨t, ht⟩ := h.obj
  have : j = 0 ∨ j = 1 ∨ j = 2 ∨ j = 3 := by omega
  rcases this with rfl | rfl | rfl | rfl <;> simp [World.cell?, ht]
theorem ls_far {L b1 o1 j : Nat} {w w2 : World} {v x y : Value} {n : Nat} {xs : List Value} (h : w.ownsRow (L + 1) 3 1 v n xs) (g : w.grownBy w2 v.ownBlock) (hx : w.cell? ⟨b1, o1, none⟩ = some x ∧ w.cell? ⟨L, j, none⟩ = some y) (h1 : b1 < L) (h2 : L < w.heap.size) : w2.cell? ⟨b1, o1, none⟩ = some x ∧ w2.cell? ⟨L, j, none⟩ = some y := by
  refine ⟨(World.cell?_of_block (a := ⟨b1, o1, none⟩) (g.block b1 (by omega) (fun e => ?_))).trans hx.1, (World.cell?_of_block (a := ⟨L, j, none⟩) (g.block L h2 (fun e => ?_))).trans hx.2⟩
  · have := (h.lt b1 e.symm).1; omega
  · have := (h.lt L e.symm).1; omega
theorem Ls.fro {z L : Nat} {w : World} {os : List Ob} {ws : List Int} {k : Nat} {f : Nat → Value} (h : Ls z L w os ws k f) (j : Nat) : w.frozen? ⟨L, j, none⟩ = false := by
  obtain ⟨t, ht⟩ := h.obj
  simp [World.frozen?, ht]
theorem ls_fro {L j : Nat} {w w2 : World} {v : Value} {n : Nat} {xs : List Value} (h : w.ownsRow (L + 1) 3 1 v n xs) (g : w.grownBy w2 v.ownBlock) (hx : w.frozen? ⟨L, j, none⟩ = false) (h2 : L < w.heap.size) : w2.frozen? ⟨L, j, none⟩ = false :=
  (World.frozen?_of_block (a := ⟨L, j, none⟩) (g.block L h2 (fun e => by have := (h.lt L e.symm).1; omega))).trans hx
theorem owns_keepB {w w' : World} {base : Nat} {e : TypeId} {size : Nat} {v : Value} {n : Nat} {xs : List Value} (h : w.ownsRow base e size v n xs) (hk : ∀ b, v.ownBlock = some b → w'.heap[b]? = w.heap[b]?) : w'.ownsRow base e size v n xs := by
  obtain ⟨hl, h | ⟨g, cap, cur, rfl, hb, hg, hc, hm, hs, ht⟩⟩ := h
  · exact ⟨hl, .inl h⟩
  · exact ⟨hl, .inr ⟨g, cap, cur, rfl, hb, by rw [hk g rfl]; exact hg, hc, hm, hs, ht⟩⟩
theorem Ls.step {L : Nat} {w WA w2 : World} {os : List Ob} {ws : List Int} {k : Nat} {f : Nat → Value} (h : Ls (L + 1) L w os ws k f) (hL : L < w.heap.size) {j : Nat} (hj : j < 4) (hc : col os ws k = (j : Int)) (BA : Below w.heap.size w WA) {v v2 : Value} {l : List Int} {ln : Nat} (hf : f j = v) (hl : nb os ws (j : Int) k = l ∧ l.length = ln) (ho : w2.ownsRow (L + 1) 3 1 v2 (ln + 1) (ncs l ++ ncs [(k : Int) + 1])) (hg : WA.grownBy w2 v.ownBlock) (hk : v2.ownBlock = v.ownBlock ∨ v2.ownBlock = some WA.heap.size) : ∃ f', Ls (L + 1) L (w2.setCell ⟨L, j, none⟩ v2) os ws (k + 1) f' ∧ L < (w2.setCell ⟨L, j, none⟩ v2).heap.size ∧ ∀ w0, Below L w0 w → Below L w0 (w2.setCell ⟨L, j, none⟩ v2) := by
  subst hf
  have lt := fun i hi => (h.own i hi).lt
  have hrow : ∀ b, b < L + 1 → some b ≠ (f j).ownBlock := fun b hb e => by
    have := (lt j hj b e.symm).1
    omega
  have hs2 := hg.size
  have hsA := BA.size
  obtain ⟨t, ht⟩ := h.obj
  have h2 : w2.heap[L]? = some (.cells #[f 0, f 1, f 2, f 3] t) := by
    rw [hg.block L (by omega) (hrow L (by omega)), BA.block L hL, ht]
  have oth : ∀ b, b ≠ L → (w2.setCell ⟨L, j, none⟩ v2).heap[b]? = w2.heap[b]? := fun b hb => Below.heap_setCell _ _ _ _ (by simpa using hb)
  have hsz : (w2.setCell ⟨L, j, none⟩ v2).heap.size = w2.heap.size := by simp
  refine ⟨fun i => if i = j then v2 else f i, ⟨⟨t, ?_⟩, fun i hi => ?_, fun i i' b hi hi' hne e => ?_⟩, by rw [hsz]; omega, fun w0 hb => ?_⟩
  · rw [show (w2.setCell ⟨L, j, none⟩ v2).heap[L]? = some (.cells (#[f 0, f 1, f 2, f 3].setIfInBounds j v2) t) by simp [World.setCell, Array.getElem?_modify, h2]]
    have : j = 0 ∨ j = 1 ∨ j = 2 ∨ j = 3 := by omega
    rcases this with rfl | rfl | rfl | rfl <;> simp
  · by_cases e : i = j
    · subst e
      simp only [if_pos]
      have : nb os ws (i : Int) (k + 1) = l ++ [(k : Int) + 1] := by simp only [nb, hl.1, if_pos hc]
      rw [this, List.length_append, hl.2, ncs_app]
      refine owns_keepB ho (fun b hb => oth b (fun e => ?_))
      have := (ho.lt b hb).1
      omega
    · simp only [if_neg e]
      have : nb os ws (i : Int) (k + 1) = nb os ws (i : Int) k := by
        simp only [nb, hc]
        rw [if_neg (by omega)]; simp
      rw [this]
      refine owns_keepB (h.own i hi) (fun b hb => ?_)
      have hlt := lt i hi b hb
      rw [oth b (by omega), hg.block b (by omega) (fun e2 => h.ne i j b hi hj e hb e2.symm), BA.block b hlt.2]
  · have new : ∀ i i' b, i < 4 → i' < 4 → i = j → i' ≠ j → v2.ownBlock = some b → (f i').ownBlock = some b → False := fun i i' b hi hi' e1 e2 h1 h2 => by
      rcases hk with hk | hk
      · exact h.ne j i' b hj hi' (by omega) (by rw [← hk]; exact h1) h2
      · rw [hk] at h1
        have := (lt i' hi' b h2).2
        simp at h1
        omega
    by_cases e1 : i = j
    · have e2 : i' ≠ j := by omega
      simp only [if_pos e1, if_neg e2] at e ⊢
      exact fun e3 => new i i' b hi hi' e1 e2 e e3
    · by_cases e2 : i' = j
      · simp only [if_neg e1, if_pos e2] at e ⊢
        exact fun e3 => new i' i b hi' hi e2 e1 e3 e
      · simp only [if_neg e1, if_neg e2] at e ⊢
        exact h.ne i i' b hi hi' hne e
  · refine Below.setCell (a := w0) (w := w2) (p := ⟨L, j, none⟩) (B := L) ⟨hg.os.trans (BA.os.trans hb.os), hg.tape.trans (BA.tape.trans hb.tape), hg.output.trans (BA.output.trans hb.output), by have := hb.size; omega, fun b hbl => ?_⟩ (Nat.le_refl _) v2
    rw [hg.block b (by omega) (hrow b (by omega)), BA.block b (by omega), hb.block b hbl]
set_option maxHeartbeats 8000000 in
theorem rsorts_ok {c : Vc} {a : Av} {w : World} {gl bs : List Int} {ba : Option Addr} {bc : Nat} (hy : Hy w c a gl ba bs) : Calls Try.prog 14 #[vl c a, .slice ba bs.length bc] w fun e w' => Tt w w' e (nb c.os (gl ++ bs) 1 c.os.length) (nb c.os (gl ++ bs) 2 c.os.length) (nb c.os (gl ++ bs) 3 c.os.length) := by
  obtain ⟨W0, hW0, B0, R0⟩ := vbox w c a
  have VF := hide (fun (wx : World) (hb : Below W0.heap.size W0 wx) => vcells (row_on R0 hb))
  have HB0 := hide B0
  have HS0 := hide (hy.s.below B0)
  have l0 : w.heap.size < W0.heap.size := R0.lt
  have HBd := hide hy.b
  have hno := hy.b.no
  have HUE := hide (hues_ok (bc := bc) (hy.s.below B0) hy.b hy.ng (hy.g.below B0) (hy.l.below B0) hy.gl hy.bl)
  have SHW := hide (fun (wx : World) (hb : Below w.heap.size w wx) (u : Int) (hu : 0 ≤ u ∧ u < 18446744073709551616) => shown_ok (a := a) (hy.s.below hb) hy.b hu.1 hu.2)
  have UPW := hide (fun (wx : World) (hb : Below W0.heap.size W0 wx) => show Below w.heap.size w wx from HB0.out.trans (hb.mono HB0.out.size))
  clear hy B0 R0
  obtain ⟨ph, co, ro, aa, na, ca, ra, cr, wa, nw, cw, oa, cb, fa, nf, cf, ga, ng, cg, qa, cq, k0, k1, k2, k3⟩ := a
  simp only [vl] at HUE SHW ⊢
  simp only at hW0 VF HS0 HUE SHW
  unfold Nt at HUE
  simp only [hs_len] at HUE
  obtain ⟨n, hn⟩ : ∃ n, c.os.length = n := ⟨_, rfl⟩
  obtain ⟨nr, hnre⟩ : ∃ nr, c.rs.length = nr := ⟨_, rfl⟩
  obtain ⟨nqz, hnqe⟩ : ∃ nqz, c.qu.length = nqz := ⟨_, rfl⟩
  obtain ⟨nbs, hnbs⟩ : ∃ nbs, bs.length = nbs := ⟨_, rfl⟩
  obtain ⟨ws, hws⟩ : ∃ ws, gl ++ bs = ws := ⟨_, rfl⟩
  obtain ⟨os, hos⟩ : ∃ os, c.os = os := ⟨_, rfl⟩
  rw [hos] at HS0 HBd hn
  simp only [hos, hws] at HUE SHW ⊢
  simp only [hn, hos, hnre, hnqe, hnbs] at hW0 VF HUE SHW hno ⊢
  have Hn := hide hn
  clear hn hnre hnqe hos hnbs hws
  have HSG := hide (fun (i : Nat) (hi : i < n) => hs_get os ws hi)
  obtain ⟨x0, x1, x2, x3, x4, x5, x6, x7, x8, x9, x10, x11, x12, x13⟩ := VF.out W0 (Below.refl _ _)
  clear SHW
  unfold Tt
  go_enter Try.func14, Try.ntmps14
  go_upto_region 2 with (go_at_call 42; refine HUE.out.mono ?_; rintro e w1 ⟨ha, hc, rfl, hown, hb⟩; have HH := hide (own_seesN hown); have HB1 := hide hb; clear hown hb)
  clear hW0 x0 x1 x2 x3 x4 x5 x6 x7 x8 x9 x10 x11 x12 x13
  go_wp2_with fail
  go_loopw [9] (fun i wr => ∃ (k : Nat) (f : Nat → Value), k ≤ n ∧ i = .int .i64 k ∧ Hid (Ls (w1.heap.size + 1) w1.heap.size wr os ws k f) ∧ Hid (w1.heap.size < wr.heap.size) ∧ Hid (Below w1.heap.size w1 wr)) (fun i _ => n - (intOf i).toNat)
  case atStart => exact ⟨0, fun _ => .slice none 0 0, Nat.zero_le _, rfl, ⟨⟨_, heap_alloc_new w1 _⟩, fun j hj => ⟨rfl, .inl ⟨rfl, rfl⟩⟩, fun i j b _ _ _ h => by simp [Value.ownBlock] at h⟩, (show w1.heap.size < (w1.alloc _).heap.size by simp), (Below.refl _ w1).alloc (Nat.le_refl _) _⟩
  case round =>
    obtain ⟨k, f, hk, rfl, HL, HZ, HB⟩ := hrel
    by_cases hlt : k < n
    · have hkn : (k : Int) < (n : Int) := by omega
      have D1 : Below wr.heap.size wr wr.drew := ⟨rfl, rfl, rfl, Nat.le_refl _, fun _ _ => rfl⟩
      have DB : Below w1.heap.size w1 wr.drew := HB.out.trans (D1.mono HB.out.size)
      obtain ⟨b1, off1, hha, hbl1, hc0⟩ := HH.out k _ (HSG.out k hlt)
      have hcc1 := (DB.cell (p := ⟨b1, off1 + k, none⟩) hbl1).trans hc0
      clear hc0
      subst hha
      obtain ⟨o, ho⟩ : ∃ o, os[k]? = some o := ⟨os[k]'(by rw [Hn.out]; exact hlt), by simp [Hn.out, hlt]⟩
      obtain ⟨j, hj, hcj⟩ : ∃ j : Nat, j < 4 ∧ col os ws k = (j : Int) := by
        rcases col_cases ws ho with h | h | h | h
        · exact ⟨0, by omega, h.2⟩
        · exact ⟨1, by omega, h.2.2⟩
        · exact ⟨2, by omega, h.2.2.2⟩
        · exact ⟨3, by omega, h.2.2.2⟩
      rw [hcj] at hcc1
      have HC := hide hcj
      have HJ := hide hj
      have hj4 : (j : Int) < 4 := by omega
      have hcell := HL.out.cell j hj
      have hown := HL.out.own j hj
      have LN : (nb os ws (j : Int) k).length ≤ k := nb_len os ws j k
      obtain ⟨l, hl⟩ : ∃ l, nb os ws (j : Int) k = l := ⟨_, rfl⟩
      rw [hl] at hown LN
      obtain ⟨ln, hln⟩ : ∃ ln, l.length = ln := ⟨_, rfl⟩
      rw [hln] at hown LN
      obtain ⟨la, cp, hfj⟩ := own_slice hown
      rw [hfj] at hown hcell
      have HFJ := hide hfj
      have HLL := hide (And.intro hl hln)
      have hcellD : wr.drew.cell? ⟨w1.heap.size, j, none⟩ = some (.slice la ln cp) := hcell
      have BA0 : Below wr.heap.size wr (wr.alloc (.cells #[.int .i64 (IntKind.i64.wrap ((k : Int) + 1))] 3)) := (Below.refl _ wr).alloc (Nat.le_refl _) _
      have BA := hide (show Below wr.heap.size wr (wr.alloc (.cells #[.int .i64 (IntKind.i64.wrap ((k : Int) + 1))] 3)).drew from ⟨BA0.os, BA0.tape, BA0.output, BA0.size, BA0.block⟩)
      clear BA0
      have OA := hide (show (wr.alloc (.cells #[.int .i64 (IntKind.i64.wrap ((k : Int) + 1))] 3)).drew.ownsRow (w1.heap.size + 1) 3 1 (.slice la ln cp) ln (ncs l) from owns_on hown BA.out)
      have AX := hide (show (wr.alloc (.cells #[.int .i64 (IntKind.i64.wrap ((k : Int) + 1))] 3)).drew.cell? ⟨b1, off1 + k, none⟩ = some (.int .i64 j) ∧ (wr.alloc (.cells #[.int .i64 (IntKind.i64.wrap ((k : Int) + 1))] 3)).drew.cell? ⟨w1.heap.size, j, none⟩ = some (.slice la ln cp) from ⟨(BA.out.cell (p := ⟨b1, off1 + k, none⟩) (Nat.lt_of_lt_of_le hbl1 DB.size)).trans hcc1, (BA.out.cell (p := ⟨w1.heap.size, j, none⟩) HZ.out).trans hcellD⟩)
      have FZ := hide (show (wr.alloc (.cells #[.int .i64 (IntKind.i64.wrap ((k : Int) + 1))] 3)).drew.frozen? ⟨w1.heap.size, j, none⟩ = false from (BA.out.frozen (p := ⟨w1.heap.size, j, none⟩) HZ.out).trans (HL.out.fro j))
      have EW := hide (show IntKind.i64.wrap ((k : Int) + 1) = (k : Int) + 1 by rw [IntKind.wrap_i64]; omega)
      have hbl1' := hbl1
      have HZ' := HZ.out
      obtain ⟨ax1, ax2⟩ := AX.out
      clear hcj hj ho hl hln hfj hown hcell
      go_upto_region 6 with (fail)
      go_region_law (first | (refine step_append_at rfl (.tmp 28) (.tmp 31) 26 rfl (w1.heap.size + 1) 3 (.int .i64 0) 1 8 Try.underlying26 infoIz rfl (by decide) (.slice la ln cp) ln (ncs l) (by simp [Act.eval, Act.put]) OA.out ⟨wr.heap.size, 0, none⟩ 1 1 (ncs [IntKind.i64.wrap ((k : Int) + 1)]) (by simp [Act.eval, Act.put]) rfl (fun j v hj => by rw [Go.WideShapes.add_plain]; have hj1 : j < 1 := (by have := (List.getElem?_eq_some_iff.1 hj).1; simpa [ncs] using this); (obtain rfl : j = 0 := (by omega)); simp [ncs] at hj; rw [← hj]; simp) (ncs_one _) (by unfold maxLen; omega) (by omega) (by simp; omega) ?_; intro v2 w2 hown hgr hbk; obtain ⟨la3, cp3, rfl⟩ := own_slice hown; have HO4 := hide hown; have HG4 := hide hgr; have HK4 := hide hbk; obtain ⟨K2, K2'⟩ := ls_far OA.out hgr AX.out hbl1' (by simp; omega); have K2f := ls_fro OA.out hgr FZ.out (by simp; omega); clear hown hgr hbk))
      all_goals
        obtain ⟨f', HS5, HZ5, HB5⟩ := HL.out.step HZ.out HJ.out HC.out BA.out HFJ.out HLL.out (by have := HO4.out; rw [EW.out] at this; exact this) HG4.out HK4.out
        have HS6 := hide HS5
        have HZ6 := hide HZ5
        have HB6 := hide (HB5 w1 HB.out)
        clear HS5 HZ5 HB5 ax1 ax2 K2 K2' K2f hcc1 hcellD HL HZ
        go_wp2_with fail
        go_roundw
        case rel => exact ⟨k + 1, f', by omega, by go_num, HS6.out, HZ6.out, HB6.out⟩
        case measure => simp [intOf]; omega
    · have hkn : ¬ (k : Int) < (n : Int) := by omega
      obtain rfl : k = n := by omega
      have hcs := And.intro (HL.out.cell 1 (by omega)) (And.intro (HL.out.cell 2 (by omega)) (HL.out.cell 3 (by omega)))
      obtain ⟨c1, c2, c3⟩ := hcs
      have O1 := HL.out.own 1 (by omega)
      have O2 := HL.out.own 2 (by omega)
      have O3 := HL.out.own 3 (by omega)
      obtain ⟨a1, p1, e1⟩ := own_slice O1
      obtain ⟨a2, p2, e2⟩ := own_slice O2
      obtain ⟨a3, p3, e3⟩ := own_slice O3
      rw [e1] at O1 c1
      rw [e2] at O2 c2
      rw [e3] at O3 c3
      have HO1 := hide O1
      have HO2 := hide O2
      have HO3 := hide O3
      clear O1 O2 O3 e1 e2 e3 HL
      have hsw : w.heap.size ≤ w1.heap.size + 1 := by have := HB1.out.size; omega
      go_upto_region 7 with (fail)
      go_quiet (fail)
      have BQ : Below wr.heap.size wr (wr.drewN nq) := ⟨rfl, rfl, rfl, Nat.le_refl _, fun _ _ => rfl⟩
      have HF := hide (And.intro (owns_low (owns_on HO1.out BQ) hsw) (And.intro (owns_low (owns_on HO2.out BQ) hsw) (And.intro (owns_low (owns_on HO3.out BQ) hsw) (UPW.out _ (HB1.out.trans ((HB.out.trans (BQ.mono HB.out.size)).mono HB1.out.size))))))
      clear BQ HO1 HO2 HO3 c1 c2 c3
      go_wp2_with fail
      refine bodyPost_ret (v := .tuple #[.slice a1 (nb os ws 1 k).length p1, .slice a2 (nb os ws 2 k).length p2, .slice a3 (nb os ws 3 k).length p3]) (by simp [results, Try.results14, go_sem]) rfl ?_
      exact ⟨a1, p1, a2, p2, a3, p3, rfl, HF.out⟩
end Hu
end Go.Proofs.Ytcjlbecmghaalaa
