/-
  View: spoil: a view's lists written over
-/
import Derived.Test.YtbffhfmhjnflbaaVwSp
namespace Go.Proofs.Ytbffhfmhjnflbaa
open Go.RowKit
set_option linter.unusedVariables false
set_option linter.unusedSimpArgs false
set_option linter.unnecessarySimpa false
set_option maxRecDepth 20000
namespace Vw
open Shape

/-- A list of one's own, as a value. -/
def OkL (w : World) (lo hi : Nat) (e : TypeId) (x : Value) : Prop := ∃ ai n ci, x = .slice ai n ci ∧ n ≤ 70000 ∧ Rw w lo hi e 1 ai n ci
/-- Sizes within bounds. -/
structure Szs (c : Cv) : Prop where
  na : c.na ≤ 70000
  nr : c.nr ≤ 70000
  rn : ∀ j, j < c.nr → c.rn j ≤ 70000
  nw : c.nw ≤ 70000
  no : c.no ≤ 70000
  ns : ∀ j, j < c.no → (c.ob j).ns ≤ 70000
  fr : c.fr.length ≤ 70000
  gr : c.gr.length ≤ 70000
  qu : c.qu.length ≤ 70000
theorem own_nil {w : World} {base : Nat} {e : TypeId} {size : Nat} {ao : Option Addr} {n cap : Nat} {xs : List Value} (h : w.ownsRow base e size (.slice ao n cap) n xs) : ao = none → n = 0 ∧ cap = 0 := by
  rintro rfl
  obtain ⟨hl, ⟨h1, h2⟩ | ⟨g, cap', cur, h1, _⟩⟩ := h
  · cases h1; exact ⟨rfl, rfl⟩
  · cases h1
/-- A view's memory of one's own: the roots' row, and an object's cells. -/
theorem Owns.roots {V w : World} {lo : Nat} {c : Cv} {a : Av} (HO : Owns V lo c a) (hb : Below V.heap.size V w) (hz : Szs c) : ∃ rs : List Value, rs.length = c.nr ∧ (∀ ad, a.ra = some ad → ∀ j u, rs[j]? = some u → w.cell? (ad.add j) = some u) ∧ (∀ u ∈ rs, u.oneCell' = true) ∧ ∀ x ∈ rs, OkL w lo V.heap.size 27 x := by
  obtain ⟨rs, h1, h2⟩ := HO.rt
  have hl : rs.length = c.nr := by have := h1.1; omega
  have hx : ∀ x ∈ rs, ∃ j ai ci, j < c.nr ∧ x = .slice ai (c.rn j) ci ∧ V.ownsRow lo 27 1 (.slice ai (c.rn j) ci) (c.rn j) (wcs (c.rn j) (c.rt j)) := fun x hx => by
    obtain ⟨j, hj, e⟩ := List.mem_iff_getElem.1 hx
    obtain ⟨ai, ci, h3, h4⟩ := h2 j (by omega)
    rw [List.getElem?_eq_getElem hj, e] at h3
    injection h3 with h3
    exact ⟨j, ai, ci, by omega, h3, h4⟩
  refine ⟨rs, hl, fun ad had j u hj => ?_, fun u hu => ?_, fun x hx' => ?_⟩
  · obtain ⟨b, e, _, hbl, hc, _⟩ := owns_cell h1 hj
    rw [had] at e
    cases e
    rw [Go.WideShapes.add_plain, Nat.zero_add]
    exact (hb.cell (p := ⟨b, j, none⟩) hbl).trans hc
  · obtain ⟨j, ai, ci, _, rfl, _⟩ := hx u hu
    rfl
  · obtain ⟨j, ai, ci, hj, rfl, h4⟩ := hx x hx'
    exact ⟨ai, _, ci, rfl, hz.rn j hj, Rw.of h4 hb⟩
theorem Owns.objAt {V w w0 : World} {lo : Nat} {c : Cv} {a : Av} (HO : Owns V lo c a) (hb : Below V.heap.size V w) (hb0 : Below V.heap.size V w0) (hz : Szs c) {m : Nat} (hm : m < c.no) : ∃ b ai ci, a.oa = some ⟨b, 0, none⟩ ∧ b < V.heap.size ∧ (∀ q, q < 9 → w.cell? ⟨b, m * 9 + q, none⟩ = some ((c.ob m).cell (.slice ai (c.ob m).ns ci) q)) ∧ OkL w0 lo V.heap.size 27 (.slice ai (c.ob m).ns ci) := by
  obtain ⟨os, h1, h2⟩ := HO.ob
  obtain ⟨ai, ci, h3, h4⟩ := h2 m hm
  obtain ⟨b, e, _, hbl, _, _⟩ := owns_cell h1 (h3 0 (by decide))
  refine ⟨b, ai, ci, e, hbl, fun q hq => ?_, ⟨ai, _, ci, rfl, hz.ns m hm, Rw.of h4 hb0⟩⟩
  obtain ⟨b', e', _, hbl', hc, _⟩ := owns_cell h1 (h3 q hq)
  rw [e] at e'
  cases e'
  exact (hb.cell (p := ⟨b, m * 9 + q, none⟩) hbl).trans hc
theorem cell_lt {w : World} {p : Addr} {u : Value} (h : w.cell? p = some u) : p.block < w.heap.size := by
  cases hg : w.heap[p.block]? with
  | none => simp [World.cell?, hg] at h
  | some o => exact (Array.getElem?_eq_some_iff.1 hg).1
theorem OkL.sp {w w' : World} {lo hi : Nat} {e : TypeId} {x : Value} (h : OkL w lo hi e x) (hs : Ovw lo hi w w') : OkL w' lo hi e x := by
  obtain ⟨ai, n, ci, h1, h2, h3⟩ := h
  exact ⟨ai, n, ci, h1, h2, h3.sp hs⟩

set_option maxHeartbeats 16000000 in
theorem spoil_ok {V w : World} {lo : Nat} {c : Cv} {a : Av} (HO : Owns V lo c a) (hb : Below V.heap.size V w) (hz : Szs c) (hlo : lo ≤ V.heap.size) :
    Calls Try.prog 13 #[vl c a] w fun e w' => (∃ v, e = .returned v) ∧ Ovw lo V.heap.size w w' := by
  obtain ⟨aa, ca, ra, cr, wa, cw, oa, cb, fa, cf, ga, cg, qa, cq⟩ := a
  obtain ⟨W0, hW0, B0, R0⟩ := vbox w c ⟨aa, ca, ra, cr, wa, cw, oa, cb, fa, cf, ga, cg, qa, cq⟩
  simp only at hW0 R0
  have HB0 := hide B0
  have RX := hide R0
  have hvw : V.heap.size ≤ w.heap.size := hb.size
  have l0 : w.heap.size < W0.heap.size := R0.lt
  obtain ⟨rs, hrl, hrc, hr1, hrk⟩ := HO.roots (hb.trans (B0.mono hvw)) hz
  simp only at hrc
  have hrn := own_nil HO.rt.choose_spec.1
  simp only at hrn
  have OB := hide (fun (wx : World) (h : Below W0.heap.size W0 wx) (m : Nat) (hm : m < c.no) => HO.objAt (hb.trans ((B0.trans (h.mono (Nat.le_of_lt l0))).mono hvw)) (hb.trans (B0.mono hvw)) hz hm)
  have AA := hide (show OkL W0 lo V.heap.size 27 (.slice aa c.na ca) from ⟨_, _, _, rfl, hz.na, Rw.of HO.ac (hb.trans (B0.mono hvw))⟩)
  have WA := hide (show OkL W0 lo V.heap.size 27 (.slice wa c.nw cw) from ⟨_, _, _, rfl, hz.nw, Rw.of HO.wk (hb.trans (B0.mono hvw))⟩)
  have FA := hide (show OkL W0 lo V.heap.size 3 (.slice fa c.fr.length cf) from ⟨_, _, _, rfl, hz.fr, Rw.of HO.fr (hb.trans (B0.mono hvw))⟩)
  have GA := hide (show OkL W0 lo V.heap.size 3 (.slice ga c.gr.length cg) from ⟨_, _, _, rfl, hz.gr, Rw.of HO.gr (hb.trans (B0.mono hvw))⟩)
  have QA := hide (show OkL W0 lo V.heap.size 3 (.slice qa c.qu.length cq) from ⟨_, _, _, rfl, hz.qu, Rw.of HO.qu (hb.trans (B0.mono hvw))⟩)
  have OA := hide (show Rw W0 lo V.heap.size 57 9 oa c.no cb from Rw.of HO.ob.choose_spec.1 (hb.trans (B0.mono hvw)))
  have RR := hide (show Rw W0 lo V.heap.size 24 1 ra c.nr cr from Rw.of HO.rt.choose_spec.1 (hb.trans (B0.mono hvw)))
  have B0F := hide B0
  have HRL := hide hrl
  have HRC := hide hrc
  have HR1 := hide hr1
  have HRK := hide hrk
  have HRN := hide hrn
  have hno := hz.no
  have hnr := hz.nr
  clear HO hb hz B0 R0 hrl hrc hr1 hrk hrn
  obtain ⟨iS, hiS, hzS, hsS, hyS⟩ := infoS
  obtain ⟨iU, hiU, hzU, hsU, hyU⟩ := infoU
  have x3 := RX.out.cell (i := 3) (by decide)
  have x4 := RX.out.cell (i := 4) (by decide)
  have x5 := RX.out.cell (i := 5) (by decide)
  simp only [lrow] at x3 x4 x5
  simp only [vl]
  have hs2 : (2 : Nat) ≤ maxLen := by unfold maxLen; omega
  go_enter Try.func13, Try.ntmps13
  go_wp2_with (at_builtin; refine wpList_append_opt rfl (.tmp 17) (.tmp 19) 28 rfl W0.heap.size 24 iS (.slice none 0 0) 1 24 Try.underlying28 hiS hzS hsS hyS rfl (by decide) (.slice (some ⟨W0.heap.size, 0, none⟩) 2 2) 2 [.slice aa c.na ca, .slice wa c.nw cw] rfl (by have := World.ownsRow_lit (base := W0.heap.size) (e := 24) (size := 1) W0 #[.slice aa c.na ca, .slice wa c.nw cw] 2 (by simp) hs2 rfl; simpa using this) ra c.nr cr rs rfl HRN.out (by rw [HRL.out]; simp) (fun ad had j u hu => by have h1 := HRC.out ad had j u hu; exact (((Below.refl _ W0).alloc (Nat.le_refl _) _).cell (cell_lt h1)).trans h1) HR1.out (by unfold maxLen; omega) (by omega) (by simp) ?_; intro v2 w2 hown hgr _; have HOW := hide hown; have HB2 := hide (show Below W0.heap.size W0 w2 from ((Below.refl _ W0).alloc (Nat.le_refl _) _).grown hgr (by simp) (by simp [Value.ownBlock])); clear hown hgr; have x6 := (row_on RX.out HB2.out).cell (i := 6) (by decide); simp only [lrow] at x6)
  go_loopw [2, 24] (fun lv i wr => ∃ (m : Nat) (L : List Value), m ≤ c.no ∧ i = .int .i64 (m : Int) ∧ L.length = 2 + c.nr + m ∧ Hid (wr.ownsRow W0.heap.size 24 1 lv (2 + c.nr + m) L) ∧ Hid (∀ x ∈ L, OkL W0 lo V.heap.size 27 x) ∧ Hid (Below W0.heap.size W0 wr)) (fun _ i _ => c.no - (intOf i).toNat)
  case atStart => exact ⟨0, _, Nat.zero_le _, rfl, by simp [HRL.out]; omega, HOW.out, fun x hx => by simp at hx; rcases hx with rfl | rfl | hx; exact AA.out; exact WA.out; obtain ⟨ai, n, ci, h1, h2, h3⟩ := HRK.out x hx; exact ⟨ai, n, ci, h1, h2, h3⟩, HB2.out⟩
  case round =>
    obtain ⟨m, L, hm, rfl, hL, ORr, OKr, HBr⟩ := hrel
    have szr : W0.heap.size ≤ wr.heap.size := HBr.out.size
    by_cases hlt : m < c.no
    · have hlt' : (m : Int) < (c.no : Int) := by omega
      obtain ⟨b1, ai, ci, e1, hb1, hcl, hok⟩ := OB.out wr HBr.out m hlt
      subst e1
      have HOK := hide hok
      clear hok
      have o0 := hcl 0 (by decide)
      have o1 := hcl 1 (by decide)
      have o2 := hcl 2 (by decide)
      have o3 := hcl 3 (by decide)
      have o4 := hcl 4 (by decide)
      have o5 := hcl 5 (by decide)
      have o6 := hcl 6 (by decide)
      have o7 := hcl 7 (by decide)
      have o8 := hcl 8 (by decide)
      clear hcl
      obtain ⟨us, li, fi, ta, ag, ge, lk, nx, ns, sl, hob⟩ : ∃ us li fi ta ag ge lk nx ns sl, c.ob m = ⟨us, li, fi, ta, ag, ge, lk, nx, ns, sl⟩ := ⟨_, _, _, _, _, _, _, _, _, _, rfl⟩
      simp only [hob, Ob.cell] at o0 o1 o2 o3 o4 o5 o6 o7 o8 HOK
      rw [Nat.add_zero] at o0
      have hbr : b1 < wr.heap.size := by omega
      clear hob
      obtain ⟨la, lc, rfl⟩ := own_slice ORr.out
      go_wp2_with (at_builtin; refine wpList_append_own_at _ rfl (.tmp 28) (.tmp 31) 28 rfl W0.heap.size 24 iS (.slice none 0 0) 1 24 Try.underlying28 hiS hzS hsS hyS rfl (by decide) (.slice la (2 + c.nr + m) lc) (2 + c.nr + m) L rfl ((ORr.out.alloc _).alloc _) ⟨wr.heap.size + 1, 0, none⟩ 1 1 [.slice ai ns ci] rfl rfl (by have := cell_one_new (wr.alloc (.cells #[.bool us, .bool li, .bool fi, .bool ta, .int .i64 ag, .int .u64 ge, .int .u64 lk, .int .u64 nx, .slice ai ns ci] 57)) (.slice ai ns ci) 24; simpa using this) (by simp [Value.oneCell']) (by unfold maxLen; omega) (by omega) (by simp; omega) ?_; intro v2 w2 hown hgr _ _; have HOW2 := hide hown; have HB2 := hide (below_grown ((HBr.out.alloc szr _).alloc (by simp; omega) _) ((ORr.out.alloc _).alloc _) hgr (by simp; omega)); clear hown hgr)
      go_roundw
      case rel =>
        refine ⟨m + 1, L ++ [.slice ai ns ci], by omega, by go_num, by simp; omega, ?_, fun x hx => ?_, HB2.out⟩
        · have := HOW2.out
          rw [show 2 + c.nr + m + 1 = 2 + c.nr + (m + 1) by omega] at this
          exact this
        · rcases List.mem_append.1 hx with hx | hx
          · exact OKr.out x hx
          · simp at hx
            subst hx
            exact HOK.out
      case measure => simp [intOf]; omega
    · have hlt' : ¬ (m : Int) < (c.no : Int) := by omega
      obtain ⟨Y, hY⟩ : ∃ W : World, W = wr := ⟨_, rfl⟩
      subst hY
      obtain ⟨la, lc, rfl⟩ := own_slice ORr.out
      obtain ⟨N, hN⟩ : ∃ N, 2 + c.nr + m = N := ⟨_, rfl⟩
      rw [hN] at ORr hL
      have hN2 : N ≤ 140002 := by omega
      have OV0 := hide (show Ovw lo V.heap.size W0 Y from Ovw.below HBr.out (by omega))
      have ORY := ORr
      have HBY := HBr
      have hvY : V.heap.size ≤ Y.heap.size := by omega
      have szY := szr
      clear ORr HBr szr
      simp only [hN]
      clear hm hlt hN
      go_wp2_with fail
      go_loopw [36] (fun i wr => ∃ (q : Nat), q ≤ N ∧ i = .int .i64 (q : Int) ∧ Hid (Ovw lo V.heap.size Y wr)) (fun i _ => N - (intOf i).toNat)
      case atStart => exact ⟨0, Nat.zero_le _, rfl, Ovw.refl _ _ _⟩
      case round =>
        obtain ⟨q, hq, rfl, OVr⟩ := hrel
        by_cases hqn : q < N
        · have hqn' : (q : Int) < (N : Int) := by omega
          obtain ⟨x, hx⟩ : ∃ x, L[q]? = some x := ⟨L[q]'(by omega), List.getElem?_eq_getElem _⟩
          obtain ⟨ai, n, ci, rfl, hn7, hrw⟩ := OKr.out x (List.mem_of_getElem? hx)
          obtain ⟨gl, e1, g1, g2, g3, g4⟩ := owns_cell ORY.out hx
          subst e1
          have hcell : wr.cell? ⟨gl, q, none⟩ = some (.slice ai n ci) := by
            have h1 := OVr.out.same gl (by omega) g2
            simp only [World.cell?, h1]
            simpa [World.cell?] using g3
          have RWY := hide (hrw.sp OV0.out)
          have hsr : Y.heap.size ≤ wr.heap.size := OVr.out.b.size
          clear hrw g3 g4 hx
          go_wp2_with fail
          go_loopw [42] (fun i ws => ∃ (p : Nat), p ≤ n ∧ i = .int .i64 (p : Int) ∧ Hid (Ovw lo V.heap.size Y ws)) (fun i _ => n - (intOf i).toNat)
          case atStart => exact ⟨0, Nat.zero_le _, rfl, OVr.out⟩
          case round =>
            obtain ⟨p, hp, rfl, OVs⟩ := hrel
            by_cases hpn : p < n
            · have hpn' : (p : Int) < (n : Int) := by omega
              obtain ⟨g, u, rfl, h1, h2, h3⟩ := (RWY.out.sp OVs.out).cell (i := p) (by omega)
              have hfz := (RWY.out.sp OVs.out).frozen p
              go_wp2_with fail
              go_roundw
              case rel => exact ⟨p + 1, by omega, by go_num, OVs.out.set h1 h2 _⟩
              case measure => simp [intOf]; omega
            · have hpn' : ¬ (p : Int) < (n : Int) := by omega
              have hz0 : ((n : Int) + 1 == 0) = false := by simp; omega
              have hss : Y.heap.size ≤ wr.heap.size := OVs.out.b.size
              have OVa := hide (OVs.out.trans (Ovw.below ((Below.refl _ wr).alloc (Nat.le_refl _) (.cells #[.int .u64 98] 27)) (by omega)))
              go_wp2_with (at_builtin; refine wpList_append_sp (lo := lo) (hi := V.heap.size) rfl (.tmp 49) (.tmp 50) 24 rfl 27 iU (.int .u64 0) Try.underlying24 hiU hzU hsU hyU (RWY.out.sp OVa.out) hn7 (by have := OVa.out.b.size; omega) rfl ⟨wr.heap.size, 0, none⟩ 1 rfl (.int .u64 98) (by have := cell_one_new wr (.int .u64 98) 27 0 _ rfl; simpa using this) rfl ?_; intro a3 c3 w3 hsp; have OV3 := hide (OVa.out.trans hsp); clear hsp)
              go_roundw
              case rel => exact ⟨q + 1, by omega, by go_num, OV3.out⟩
              case measure => simp [intOf]; omega
        · have hqn' : ¬ (q : Int) < (N : Int) := by omega
          obtain ⟨Y1, hY1⟩ : ∃ W : World, W = wr := ⟨_, rfl⟩
          subst hY1
          have OV1 := OVr
          have hs1 : Y.heap.size ≤ Y1.heap.size := OV1.out.b.size
          have BX := hide (fun (wx : World) (h : Ovw lo V.heap.size Y wx) => show wx.rowIs w.heap.size 33 14 _ from (row_on RX.out HBY.out).of_block (h.same _ (by omega) (by omega)))
          have y7 := (BX.out Y1 OV1.out).cell (i := 7) (by decide)
          have y8 := (BX.out Y1 OV1.out).cell (i := 8) (by decide)
          have y9 := (BX.out Y1 OV1.out).cell (i := 9) (by decide)
          simp only [lrow] at y7 y8 y9
          clear OVr OKr ORY hq
          go_upto_region 17 with (fail)
          obtain ⟨Z, hZ⟩ : ∃ W, Y1.alloc (.cells #[.slice fa c.fr.length cf, .slice ga c.gr.length cg, .slice qa c.qu.length cq] 30) = W := ⟨_, rfl⟩
          have OVZ := hide (show Ovw lo V.heap.size Y Z from OV1.out.trans (Ovw.below (by rw [← hZ]; exact (Below.refl _ Y1).alloc (Nat.le_refl _) _) (by omega)))
          have RZ := hide (show Z.rowIs Y1.heap.size 30 3 (lrow [.slice fa c.fr.length cf, .slice ga c.gr.length cg, .slice qa c.qu.length cq]) by rw [← hZ]; exact rowL_alloc Y1 [.slice fa c.fr.length cf, .slice ga c.gr.length cg, .slice qa c.qu.length cq] _ rfl)
          have hsz : Y1.heap.size < Z.heap.size := RZ.out.lt
          have OKN := hide (show ∀ (q : Nat) (x : Value), [Value.slice fa c.fr.length cf, .slice ga c.gr.length cg, .slice qa c.qu.length cq][q]? = some x → OkL Z lo V.heap.size 3 x from fun q x hx => by
            have hs := OV0.out.trans OVZ.out
            rcases q with _ | _ | _ | q
            · simp at hx; subst hx; exact FA.out.sp hs
            · simp at hx; subst hx; exact GA.out.sp hs
            · simp at hx; subst hx; exact QA.out.sp hs
            · simp at hx)
          go_wp2_with fail
          go_loopw [63] (fun i wr => ∃ (q : Nat), q ≤ 3 ∧ i = .int .i64 (q : Int) ∧ Hid (Ovw lo V.heap.size Z wr)) (fun i _ => 3 - (intOf i).toNat)
          case atStart => exact ⟨0, by omega, rfl, by (first | exact Ovw.refl _ _ _ | (rw [hZ]; exact Ovw.refl _ _ _))⟩
          case round =>
            obtain ⟨q, hq, rfl, OVr⟩ := hrel
            by_cases hqn : q < 3
            · have hqn' : (q : Int) < 3 := by omega
              obtain ⟨x, hx⟩ : ∃ x, [Value.slice fa c.fr.length cf, .slice ga c.gr.length cg, .slice qa c.qu.length cq][q]? = some x := ⟨_, List.getElem?_eq_getElem (by simpa using hqn)⟩
              obtain ⟨ai, n, ci, rfl, hn7, hrw⟩ := OKN.out q x hx
              have hcell : wr.cell? ⟨Y1.heap.size, q, none⟩ = some (.slice ai n ci) := by
                have h1 := ((RZ.out).of_block (OVr.out.same _ (by omega) hsz)).cell (i := q) hqn
                rw [h1]
                simp only [lrow, hx]
                rfl
              have RWY := hide hrw
              clear hrw hx
              go_wp2_with fail
              go_loopw [69] (fun i ws => ∃ (p : Nat), p ≤ n ∧ i = .int .i64 (p : Int) ∧ Hid (Ovw lo V.heap.size Z ws)) (fun i _ => n - (intOf i).toNat)
              case atStart => exact ⟨0, Nat.zero_le _, rfl, OVr.out⟩
              case round =>
                obtain ⟨p, hp, rfl, OVs⟩ := hrel
                by_cases hpn : p < n
                · have hpn' : (p : Int) < (n : Int) := by omega
                  obtain ⟨g, u, rfl, h1, h2, h3⟩ := (RWY.out.sp OVs.out).cell (i := p) (by omega)
                  have hfz := (RWY.out.sp OVs.out).frozen p
                  go_wp2_with fail
                  go_roundw
                  case rel => exact ⟨p + 1, by omega, by go_num, OVs.out.set h1 h2 _⟩
                  case measure => simp [intOf]; omega
                · have hpn' : ¬ (p : Int) < (n : Int) := by omega
                  go_wp2_with fail
                  go_roundw
                  case rel => exact ⟨q + 1, by omega, by go_num, OVs.out⟩
                  case measure => simp [intOf]; omega
            · have hqn' : ¬ (q : Int) < 3 := by omega
              have OV2 := hide (OVZ.out.trans OVr.out)
              obtain ⟨Y2, hY2⟩ : ∃ W : World, W = wr := ⟨_, rfl⟩
              subst hY2
              have y6 := (BX.out Y2 OV2.out).cell (i := 6) (by decide)
              simp only [lrow] at y6
              clear OVr OKN RZ hq
              go_wp2_with fail
              go_loopw [80] (fun i wr => ∃ (q : Nat), q ≤ c.no ∧ i = .int .i64 (q : Int) ∧ Hid (Ovw lo V.heap.size Y wr)) (fun i _ => c.no - (intOf i).toNat)
              case atStart => exact ⟨0, Nat.zero_le _, rfl, OV2.out⟩
              case round =>
                obtain ⟨q, hq, rfl, OVr⟩ := hrel
                have z6 := (BX.out wr OVr.out).cell (i := 6) (by decide)
                simp only [lrow] at z6
                by_cases hqn : q < c.no
                · have hqn' : (q : Int) < (c.no : Int) := by omega
                  have RWO := OA.out.sp (OV0.out.trans OVr.out)
                  obtain ⟨g, e1, h1, h2⟩ := RWO.some (by omega)
                  subst e1
                  have HRO := hide RWO
                  obtain ⟨u0, c0⟩ : ∃ u, wr.cell? ⟨g, q * 9 + 0, none⟩ = some u := by obtain ⟨g', u, e', _, _, h⟩ := RWO.cell (i := q * 9 + 0) (by omega); cases e'; exact ⟨u, h⟩
                  obtain ⟨u1, c1⟩ : ∃ u, wr.cell? ⟨g, q * 9 + 1, none⟩ = some u := by obtain ⟨g', u, e', _, _, h⟩ := RWO.cell (i := q * 9 + 1) (by omega); cases e'; exact ⟨u, h⟩
                  obtain ⟨u2, c2⟩ : ∃ u, wr.cell? ⟨g, q * 9 + 2, none⟩ = some u := by obtain ⟨g', u, e', _, _, h⟩ := RWO.cell (i := q * 9 + 2) (by omega); cases e'; exact ⟨u, h⟩
                  obtain ⟨u3, c3⟩ : ∃ u, wr.cell? ⟨g, q * 9 + 3, none⟩ = some u := by obtain ⟨g', u, e', _, _, h⟩ := RWO.cell (i := q * 9 + 3) (by omega); cases e'; exact ⟨u, h⟩
                  obtain ⟨u4, c4⟩ : ∃ u, wr.cell? ⟨g, q * 9 + 4, none⟩ = some u := by obtain ⟨g', u, e', _, _, h⟩ := RWO.cell (i := q * 9 + 4) (by omega); cases e'; exact ⟨u, h⟩
                  obtain ⟨u5, c5⟩ : ∃ u, wr.cell? ⟨g, q * 9 + 5, none⟩ = some u := by obtain ⟨g', u, e', _, _, h⟩ := RWO.cell (i := q * 9 + 5) (by omega); cases e'; exact ⟨u, h⟩
                  obtain ⟨u6, c6⟩ : ∃ u, wr.cell? ⟨g, q * 9 + 6, none⟩ = some u := by obtain ⟨g', u, e', _, _, h⟩ := RWO.cell (i := q * 9 + 6) (by omega); cases e'; exact ⟨u, h⟩
                  obtain ⟨u7, c7⟩ : ∃ u, wr.cell? ⟨g, q * 9 + 7, none⟩ = some u := by obtain ⟨g', u, e', _, _, h⟩ := RWO.cell (i := q * 9 + 7) (by omega); cases e'; exact ⟨u, h⟩
                  obtain ⟨u8, c8⟩ : ∃ u, wr.cell? ⟨g, q * 9 + 8, none⟩ = some u := by obtain ⟨g', u, e', _, _, h⟩ := RWO.cell (i := q * 9 + 8) (by omega); cases e'; exact ⟨u, h⟩
                  have f0 := RWO.frozen (q * 9 + 0)
                  have f1 := RWO.frozen (q * 9 + 1)
                  have f2 := RWO.frozen (q * 9 + 2)
                  have f3 := RWO.frozen (q * 9 + 3)
                  have f4 := RWO.frozen (q * 9 + 4)
                  have f5 := RWO.frozen (q * 9 + 5)
                  have f6 := RWO.frozen (q * 9 + 6)
                  have f7 := RWO.frozen (q * 9 + 7)
                  have f8 := RWO.frozen (q * 9 + 8)
                  rw [Nat.add_zero] at c0 f0
                  clear RWO
                  go_wp2_with fail
                  go_roundw
                  case rel =>
                    refine ⟨q + 1, by omega, by go_num, ?_⟩
                    repeat' refine Ovw.set ?_ (by simpa using h1) (by simpa using h2) _
                    exact OVr.out
                  case measure => simp [intOf]; omega
                · have hqn' : ¬ (q : Int) < (c.no : Int) := by omega
                  have z4 := (BX.out wr OVr.out).cell (i := 4) (by decide)
                  simp only [lrow] at z4
                  obtain ⟨Y3, hY3⟩ : ∃ W : World, W = wr := ⟨_, rfl⟩
                  subst hY3
                  have OV3 := OVr
                  clear OVr hq
                  go_wp2_with fail
                  go_loopw [92] (fun i wr => ∃ (q : Nat), q ≤ c.nr ∧ i = .int .i64 (q : Int) ∧ Hid (Ovw lo V.heap.size Y wr)) (fun i _ => c.nr - (intOf i).toNat)
                  case atStart => exact ⟨0, Nat.zero_le _, rfl, OV3.out⟩
                  case round =>
                    obtain ⟨q, hq, rfl, OVr⟩ := hrel
                    have z4 := (BX.out wr OVr.out).cell (i := 4) (by decide)
                    simp only [lrow] at z4
                    by_cases hqn : q < c.nr
                    · have hqn' : (q : Int) < (c.nr : Int) := by omega
                      have RWO := RR.out.sp (OV0.out.trans OVr.out)
                      obtain ⟨g, u, e1, h1, h2, h3⟩ := RWO.cell (i := q) (by omega)
                      subst e1
                      have hfz := RWO.frozen q
                      clear RWO
                      go_wp2_with fail
                      go_roundw
                      case rel => exact ⟨q + 1, by omega, by go_num, OVr.out.set h1 h2 _⟩
                      case measure => simp [intOf]; omega
                    · have hqn' : ¬ (q : Int) < (c.nr : Int) := by omega
                      go_wp2_with fail
                      exact bodyPost_end (results_none (by rfl) _ _ _) rfl ⟨⟨_, rfl⟩, (Ovw.below (B0F.out) (by omega)).trans (OV0.out.trans OVr.out)⟩
end Vw
end Go.Proofs.Ytbffhfmhjnflbaa
