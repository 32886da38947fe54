/-
  Graph: GraphKeeps' walk
-/
import Derived.Test.YtlbcjolbgeficaaGrKd
import Derived.Test.YtlbcjolbgeficaaGrKs
import Derived.Test.YtlbcjolbgeficaaGrKw
import Derived.Test.YtlbcjolbgeficaaGrI
import Derived.Test.YtlbcjolbgeficaaGrGr
namespace Go.Proofs.Ytlbcjolbgeficaa
open Go.RowKit
set_option linter.unusedVariables false
set_option linter.unusedSimpArgs false
set_option linter.unnecessarySimpa false
set_option maxRecDepth 20000
namespace Gr
theorem drew_on {b : Nat} {w w' : World} (h : Below b w w') : Below b w w'.drew := ⟨h.os, h.tape, h.output, h.size, h.block⟩
theorem drew_from {w w' : World} (h : Below w.drew.heap.size w.drew w') : Below w.heap.size w w' := ⟨h.os, h.tape, h.output, h.size, h.block⟩
theorem wd_snoc {l : List Int} (h : Wd l) : Wd (l ++ [71]) := fun u hu => (List.mem_append.1 hu).elim (h u) (fun e => by simp at e; subst e; decide)
theorem sees_pre {w : World} {ao : Option Addr} {l m : List Int} (h : SeesU w ao (l ++ m)) : SeesU w ao l := fun j x hj => h j x (by rw [List.getElem?_append_left (List.getElem?_eq_some_iff.1 hj).1]; exact hj)
theorem cut_head {g N cp : Nat} (hN : N + 1 ≤ cp) (hc : cp ≤ maxLen) : ∀ w, (Instr.slice 23 (.slice (some ⟨g, 0, none⟩) (N + 1) cp) none (some (.int .i64 (N : Int))) none).run Try.prog w = .ok (.slice (some ⟨g, 0, none⟩) N cp) w := by
  intro w
  have hs : (sizeOf (Try.prog.elem 23)).run Try.prog w = .ok 1 w := by kernel_rfl
  have hz := run_slice_h (P := Try.prog) w 23 (some ⟨g, 0, none⟩) (N + 1) cp (by kernel_rfl) .i64 (N : Int) (by omega) (by omega)
  rw [hz, hs]
  simp [Result.andThen, sliced]
  intro _
  rw [Go.WideShapes.add_plain]

theorem below_frozen {B : Nat} {w w' : World} (hb : Below B w w') {p : Addr} (h : p.block < B) : w'.frozen? p = w.frozen? p := by simp [World.frozen?, hb.block _ h]
/-- Where numbers are written over. -/
def Zn (a b c d : Nat) (k : Nat) : Prop := (a ≤ k ∧ k < b) ∨ (c ≤ k ∧ k < d)
theorem own_some {w : World} {base : Nat} {e : TypeId} {size : Nat} {ao : Option Addr} {n cap : Nat} {xs : List Value} (h : w.ownsRow base e size (.slice ao n cap) n xs) (hn : 0 < n) : ∃ g, ao = some ⟨g, 0, none⟩ ∧ base ≤ g ∧ g < w.heap.size ∧ n ≤ cap ∧ cap ≤ maxLen := by
  obtain ⟨hl, ⟨h1, h2⟩ | ⟨g, cap', cur, h1, hb, hg, hc, hm, hs, ht⟩⟩ := h
  · cases h1; omega
  · cases h1; exact ⟨g, rfl, hb, (Array.getElem?_eq_some_iff.1 hg).1, hc, hm⟩
theorem own_same {w w' : World} {base : Nat} {e : TypeId} {size : Nat} {v : Value} {n g : Nat} {xs : List Value} (h : w.ownsRow base e size v n xs) (hs : ∀ k, k ≠ g → w'.heap[k]? = w.heap[k]?) (hne : v.ownBlock ≠ some g) : w'.ownsRow base e size v n xs := by
  obtain ⟨hl, h | ⟨g', cap, cur, rfl, hb, hg, hc, hm, hs', ht⟩⟩ := h
  · exact ⟨hl, .inl h⟩
  · exact ⟨hl, .inr ⟨g', cap, cur, rfl, hb, by rw [hs g' (fun e => hne (by simp [Value.ownBlock, e]))]; exact hg, hc, hm, hs', ht⟩⟩
set_option maxHeartbeats 32000000 in
theorem keeps_walk {c : Vc} {a : Av} {w : World} {fa' : Option Addr} {fc : Nat} {l : List Int} (hS : Shows w c a) (hB : Bv c) (hZ : Sz c) (hN : Ncv w c a) (hL : SeesU w fa' l) (hW : Wd l) (hfc : fa' = none → fc = 0) (hll : l.length ≤ 1048576) :
    Calls Try.prog 3 #[vl c a, .slice fa' l.length fc] w fun e w' => e = .returned (.bool true) ∧ Below w.heap.size w w' := by
  obtain ⟨W0, hW0, B0, R0⟩ := vbox w c a
  have VF := hide (fun (wx : World) (hb : Below W0.heap.size W0 wx) => vcells (row_on R0 hb))
  have HB0 := hide B0
  have HS0 := hide (hS.below B0)
  have HN0 := hide (hN.below hS B0)
  have HL0 := hide (hL.below B0)
  have l0 : w.heap.size < W0.heap.size := R0.lt
  have CO := hide (fun (w1 : World) (h1 : Below W0.heap.size W0 w1) => copied_ok (HS0.out.below h1) hZ (HN0.out.below HS0.out h1))
  have RE := hide (fun (w1 : World) (a1 : Av) (h : Shows w1 c a1) (ao : Option Addr) (cp : Nat) (h2 : SeesU w1 ao l) => reach_ok (fc := cp) (a := a1) h.ob h2 hB.bd hW (by omega))
  have RO := hide (fun (w1 : World) (a1 : Av) (h : Shows w1 c a1) => roots_ok h hB)
  have LI := hide (fun (w1 : World) (a1 : Av) (h : Shows w1 c a1) => live_ok h hB)
  have DE := hide (fun (w1 : World) (a1 : Av) (h : Shows w1 c a1) => dead_ok h hB)
  have WY := hide (fun (w1 : World) (a1 : Av) (h : Shows w1 c a1) => way_ok h hB 1)
  have HE := hide (fun (w1 : World) (a1 : Av) (h : Shows w1 c a1) => held_ok h hB)
  have SV := hide (fun (w1 : World) (a1 a2 : Av) (h : Shows w1 c a1) (h2 : Shows w1 c a2) => sameView_ok h h2 hZ)
  have RR := hide (fun (w1 : World) (h1 : Shows w1 c a) (h2 : SeesU w1 fa' l) => rreach_ok (fc := fc) (a := a) h1.ob h2 hB.bd hW (by omega))
  have QO := hide (fun (w1 : World) (h1 : Shows w1 c a) => rroots_ok h1 hB)
  have QL := hide (fun (w1 : World) (h1 : Shows w1 c a) => rlive_ok h1 hB)
  have QH := hide (fun (w1 : World) (h1 : Shows w1 c a) => rheld_ok h1 hB)
  have NL := hide (show fa' = none → l.length = 0 ∧ fc = 0 from fun e => ⟨nil_len hL e, hfc e⟩)
  have hno := hB.bd.no
  have hnr := hZ.nr
  have hrl := rts_len hB
  have hdl : (dd c).length ≤ c.os.length := ddk_len c _
  have HZ := hide hZ
  have HWd := hide hW
  clear hS hB hZ hN hL hW hfc B0 R0
  obtain ⟨ph, co, ro, aa, na, ca, ra, cr, wa, nw, cw, oa, cb, fa, nf, cf, ga, ng, cg, qa, cq, k0, k1, k2, k3⟩ := a
  simp only [vl] at CO RE RO LI DE WY HE SV RR QO QL QH ⊢
  simp only at hW0 VF
  obtain ⟨n, hn⟩ : ∃ n, c.os.length = n := ⟨_, rfl⟩
  obtain ⟨nr, hnre⟩ : ∃ nr, c.rs.length = nr := ⟨_, rfl⟩
  obtain ⟨nqz, hnqe⟩ : ∃ nqz, c.qu.length = nqz := ⟨_, rfl⟩
  obtain ⟨N, hNe⟩ : ∃ N, l.length = N := ⟨_, rfl⟩
  obtain ⟨m, hm⟩ : ∃ m, (rts c).length = m := ⟨_, rfl⟩
  obtain ⟨nd, hnd⟩ : ∃ nd, (dd c).length = nd := ⟨_, rfl⟩
  rw [hm] at hrl
  rw [hnd] at hdl
  simp only [hn, hnre, hnqe, hNe] at hW0 VF CO RE RO LI DE WY HE SV RR QO QL QH NL hno hnr hdl hll ⊢
  have Hn := hide hn
  have Hnr := hide hnre
  have Hnq := hide hnqe
  have HNl := hide hNe
  have Hm := hide hm
  have Hnd := hide hnd
  clear hn hnre hnqe hNe hm hnd
  have AL := hide (fun w1 => alive_ok w1)
  obtain ⟨iU, hiU, hzU, hsU, hyU⟩ := infoU
  go_enter Try.func3, Try.ntmps3
  go_upto_region 3 with (go_at_call 5; refine (AL.out _).mono ?_; rintro e w1 ⟨rfl, hb⟩; have HB1 := hide hb; clear hb)
  clear hW0 AL
  have K0 := VF.out w1 HB1.out
  have z1 : W0.heap.size ≤ w1.heap.size := HB1.out.size
  go_upto_region 4 with (go_at_call 6; refine (CO.out _ HB1.out).mono ?_; rintro e w2 ⟨ra1, cr1, oa1, cb1, qa1, cq1, rfl, hcp, hb⟩; have CP2 := hide hcp; have B2 := hide hb; clear hcp hb; simp only [vl, Hn.out, Hnr.out, Hnq.out])
  simp only at CP2
  obtain ⟨W3, hW3⟩ : ∃ W3, w2.alloc (.cells #[.int .i64 ph, .int .i64 co, .int .u64 ro, .slice aa na ca, .slice ra1 nr cr1, .slice wa nw cw, .slice oa1 n cb1, .slice fa nf cf, .slice ga ng cg, .slice qa1 nqz cq1, .int .u64 k0, .int .u64 k1, .int .u64 k2, .int .u64 k3] 29) = W3 := ⟨_, rfl⟩
  have RB := hide (show W3.rowIs w2.heap.size 29 14 (lrow [.int .i64 ph, .int .i64 co, .int .u64 ro, .slice aa na ca, .slice ra1 nr cr1, .slice wa nw cw, .slice oa1 n cb1, .slice fa nf cf, .slice ga ng cg, .slice qa1 nqz cq1, .int .u64 k0, .int .u64 k1, .int .u64 k2, .int .u64 k3]) from by rw [← hW3]; exact rowL_alloc w2 [.int .i64 ph, .int .i64 co, .int .u64 ro, .slice aa na ca, .slice ra1 nr cr1, .slice wa nw cw, .slice oa1 n cb1, .slice fa nf cf, .slice ga ng cg, .slice qa1 nqz cq1, .int .u64 k0, .int .u64 k1, .int .u64 k2, .int .u64 k3] _ rfl)
  have B3 := hide (show Below w2.heap.size w2 W3 from by rw [← hW3]; exact (Below.refl _ w2).alloc (Nat.le_refl _) _)
  have s2 : w1.heap.size ≤ w2.heap.size := B2.out.size
  have s3 : w2.heap.size < W3.heap.size := RB.out.lt
  have B03 := hide (show Below W0.heap.size W0 W3 from HB1.out.trans ((B2.out.mono z1).trans (B3.out.mono (by omega))))
  try rw [hW3]
  clear hW3 K0
  have HL3 := hide (HL0.out.below B03.out)
  have VO := hide (fun (wx : World) (hb : Below W3.heap.size W3 wx) => show wx.cell? ⟨w2.heap.size, 0, none⟩ = some (.int .i64 ph) ∧ wx.cell? ⟨w2.heap.size, 1, none⟩ = some (.int .i64 co) ∧ wx.cell? ⟨w2.heap.size, 2, none⟩ = some (.int .u64 ro) ∧ wx.cell? ⟨w2.heap.size, 3, none⟩ = some (.slice aa na ca) ∧ wx.cell? ⟨w2.heap.size, 4, none⟩ = some (.slice ra1 nr cr1) ∧ wx.cell? ⟨w2.heap.size, 5, none⟩ = some (.slice wa nw cw) ∧ wx.cell? ⟨w2.heap.size, 6, none⟩ = some (.slice oa1 n cb1) ∧ wx.cell? ⟨w2.heap.size, 7, none⟩ = some (.slice fa nf cf) ∧ wx.cell? ⟨w2.heap.size, 8, none⟩ = some (.slice ga ng cg) ∧ wx.cell? ⟨w2.heap.size, 9, none⟩ = some (.slice qa1 nqz cq1) ∧ wx.cell? ⟨w2.heap.size, 10, none⟩ = some (.int .u64 k0) ∧ wx.cell? ⟨w2.heap.size, 11, none⟩ = some (.int .u64 k1) ∧ wx.cell? ⟨w2.heap.size, 12, none⟩ = some (.int .u64 k2) ∧ wx.cell? ⟨w2.heap.size, 13, none⟩ = some (.int .u64 k3) from by
    have q := row_on RB.out hb
    exact ⟨q.cell (i := 0) (by decide), q.cell (i := 1) (by decide), q.cell (i := 2) (by decide), q.cell (i := 3) (by decide), q.cell (i := 4) (by decide), q.cell (i := 5) (by decide), q.cell (i := 6) (by decide), q.cell (i := 7) (by decide), q.cell (i := 8) (by decide), q.cell (i := 9) (by decide), q.cell (i := 10) (by decide), q.cell (i := 11) (by decide), q.cell (i := 12) (by decide), q.cell (i := 13) (by decide)⟩)
  have SH3 := hide (fun (wx : World) (hb : Below W3.heap.size W3 wx) => (CP2.out.shows.below B3.out).below hb)
  obtain ⟨bo, hbo⟩ : ∃ bo, w2.heap.size = bo := ⟨_, rfl⟩
  rw [hbo] at VO s3
  have Hbo := hide hbo
  try rw [hbo]
  clear hbo
  go_upto_region 5 with (first
    | (at_builtin; refine wpList_append_opt rfl (.tmp 25) (.tmp 26) 23 rfl W3.heap.size 22 iU (.int .u64 0) 1 8 Try.underlying23 hiU hzU hsU hyU rfl (by decide) (.slice (some ⟨W3.heap.size, 0, none⟩) 0 0) 0 [] rfl (owns_nil0 (Nat.le_refl _)) fa' N fc (ucs l) rfl NL.out (by rw [ucs_len, HNl.out]; omega) (news_u (HL3.out.below ((Below.refl _ W3).alloc (Nat.le_refl _) _))) (ucs_one _) (by unfold maxLen; omega) (by omega) (by simp) ?_; intro v4 w4 hown4 hgr4 _; rw [Nat.zero_add, List.nil_append] at hown4; obtain ⟨l4, p4, rfl⟩ := own_slice hown4; have O4 := hide hown4; have B4 := hide (show Below W3.heap.size W3 w4 from below_new (Nat.le_refl _) hgr4 (fun x e => by cases e; exact Nat.le_refl _)); have s4 := B4.out.size; clear hown4 hgr4)
    | (at_builtin; refine wpList_append_opt rfl (.tmp 27) (.tmp 28) 23 rfl W3.heap.size 22 iU (.int .u64 0) 1 8 Try.underlying23 hiU hzU hsU hyU rfl (by decide) (.slice l4 N p4) N (ucs l) rfl (O4.out.alloc _) (some ⟨w4.heap.size, 0, none⟩) 1 1 [.int .u64 71] rfl (fun h => by cases h) rfl (fun ad had q u hu => by obtain ⟨rfl, rfl⟩ := one_val hu; cases had; rw [Go.WideShapes.add_plain]; simp) (by simp [Value.oneCell']) (by unfold maxLen; omega) (by omega) (by simp; omega) ?_; intro v5 w5 hown5 hgr5 _; obtain ⟨l5, p5, rfl⟩ := own_slice hown5; have O5 := hide (show w5.ownsRow W3.heap.size 22 1 (.slice l5 (N + 1) p5) (N + 1) (ucs (l ++ [71])) from by rw [ucs_app]; exact hown5); have B5 := hide (show Below W3.heap.size W3 w5 from B4.out.trans (below_new s4 hgr5 (fun x e => (O4.out.lt x e).1))); clear hown5 hgr5))
  obtain ⟨g5, hl5, hg5, hg5', hp5, hp5'⟩ := own_some O5.out (by omega)
  subst hl5
  have SL5 := hide (sees_pre (own_seesU O5.out))
  have cutL := cut_head (g := g5) hp5 hp5'
  have hNp : (N : Int) ≤ (p5 : Int) := by omega
  have s5 : W3.heap.size ≤ w5.heap.size := B5.out.size
  have D5 : Below W3.heap.size W3 w5.drew := drew_on B5.out
  have K0 := VO.out _ D5
  have RE5 := hide (RE.out w5.drew ⟨ph, co, ro, aa, na, ca, ra1, cr1, wa, nw, cw, oa1, cb1, fa, nf, cf, ga, ng, cg, qa1, cq1, k0, k1, k2, k3⟩ (SH3.out _ D5) (some ⟨g5, 0, none⟩) p5 (SL5.out.below (drew_on (Below.refl _ _))))
  simp only at RE5
  go_region_held (fun w' => w'.cell? ⟨bo, 0, none⟩ = some (.int .i64 ph) ∧ w'.cell? ⟨bo, 1, none⟩ = some (.int .i64 co) ∧ w'.cell? ⟨bo, 2, none⟩ = some (.int .u64 ro) ∧ w'.cell? ⟨bo, 3, none⟩ = some (.slice aa na ca) ∧ w'.cell? ⟨bo, 4, none⟩ = some (.slice ra1 nr cr1) ∧ w'.cell? ⟨bo, 5, none⟩ = some (.slice wa nw cw) ∧ w'.cell? ⟨bo, 6, none⟩ = some (.slice oa1 n cb1) ∧ w'.cell? ⟨bo, 7, none⟩ = some (.slice fa nf cf) ∧ w'.cell? ⟨bo, 8, none⟩ = some (.slice ga ng cg) ∧ w'.cell? ⟨bo, 9, none⟩ = some (.slice qa1 nqz cq1) ∧ w'.cell? ⟨bo, 10, none⟩ = some (.int .u64 k0) ∧ w'.cell? ⟨bo, 11, none⟩ = some (.int .u64 k1) ∧ w'.cell? ⟨bo, 12, none⟩ = some (.int .u64 k2) ∧ w'.cell? ⟨bo, 13, none⟩ = some (.int .u64 k3)) (first | exact K0 | exact K1 | exact K2) (first
    | (go_at_call 7; refine RE5.out.mono ?_; rintro e w6 ⟨g6, rfl, hg6, hr, hb⟩; have HR6 := hide hr; have B6 := hide (show Below W3.heap.size W3 w6 from D5.trans (hb.mono (by simpa using s5))); have B56 := hide (drew_from hb); have K1 := VO.out w6 B6.out; have RO6 := hide (RO.out w6 ⟨ph, co, ro, aa, na, ca, ra1, cr1, wa, nw, cw, oa1, cb1, fa, nf, cf, ga, ng, cg, qa1, cq1, k0, k1, k2, k3⟩ (SH3.out _ B6.out)); clear hr hb)
    | (go_at_call 8; refine RO6.out.mono ?_; rintro e w7 ⟨ao7, cp7, rfl, ho, hb⟩; rw [Hm.out] at ho; (try rw [Hm.out]); have HO7 := hide ho; have B67 := hide hb; have B7 := hide (show Below W3.heap.size W3 w7 from B6.out.trans (hb.mono B6.out.size)); have K2 := VO.out w7 B7.out; clear ho hb))
  clear K0 K1 K2
  go_upto_region 6 with (fail)
  have D7 : Below W3.heap.size W3 w7.drew := drew_on B7.out
  have K0 := VO.out _ D7
  have LI7 := hide (LI.out w7.drew ⟨ph, co, ro, aa, na, ca, ra1, cr1, wa, nw, cw, oa1, cb1, fa, nf, cf, ga, ng, cg, qa1, cq1, k0, k1, k2, k3⟩ (SH3.out _ D7))
  simp only at LI7
  go_region_held (fun w' => w'.cell? ⟨bo, 0, none⟩ = some (.int .i64 ph) ∧ w'.cell? ⟨bo, 1, none⟩ = some (.int .i64 co) ∧ w'.cell? ⟨bo, 2, none⟩ = some (.int .u64 ro) ∧ w'.cell? ⟨bo, 3, none⟩ = some (.slice aa na ca) ∧ w'.cell? ⟨bo, 4, none⟩ = some (.slice ra1 nr cr1) ∧ w'.cell? ⟨bo, 5, none⟩ = some (.slice wa nw cw) ∧ w'.cell? ⟨bo, 6, none⟩ = some (.slice oa1 n cb1) ∧ w'.cell? ⟨bo, 7, none⟩ = some (.slice fa nf cf) ∧ w'.cell? ⟨bo, 8, none⟩ = some (.slice ga ng cg) ∧ w'.cell? ⟨bo, 9, none⟩ = some (.slice qa1 nqz cq1) ∧ w'.cell? ⟨bo, 10, none⟩ = some (.int .u64 k0) ∧ w'.cell? ⟨bo, 11, none⟩ = some (.int .u64 k1) ∧ w'.cell? ⟨bo, 12, none⟩ = some (.int .u64 k2) ∧ w'.cell? ⟨bo, 13, none⟩ = some (.int .u64 k3)) (first | exact K0 | exact K1 | exact K2 | exact K3 | exact K4) (first
    | (go_at_call 9; refine LI7.out.mono ?_; rintro e w8 ⟨g8, rfl, hg8, hr, hb⟩; have HR8 := hide hr; have B78 := hide (drew_from hb); have B8 := hide (show Below W3.heap.size W3 w8 from B7.out.trans (B78.out.mono B7.out.size)); have K1 := VO.out w8 B8.out; have DE8 := hide (DE.out w8 ⟨ph, co, ro, aa, na, ca, ra1, cr1, wa, nw, cw, oa1, cb1, fa, nf, cf, ga, ng, cg, qa1, cq1, k0, k1, k2, k3⟩ (SH3.out _ B8.out)); clear hr hb)
    | (go_at_call 10; refine DE8.out.mono ?_; rintro e w9 ⟨ao9, cp9, rfl, ho, hb⟩; rw [Hnd.out] at ho; (try rw [Hnd.out]); have HO9 := hide ho; have B89 := hide hb; have B9 := hide (show Below W3.heap.size W3 w9 from B8.out.trans (hb.mono B8.out.size)); have K2 := VO.out w9 B9.out; have WY9 := hide (WY.out w9 ⟨ph, co, ro, aa, na, ca, ra1, cr1, wa, nw, cw, oa1, cb1, fa, nf, cf, ga, ng, cg, qa1, cq1, k0, k1, k2, k3⟩ (SH3.out _ B9.out)); clear ho hb)
    | (go_at_call 11; refine WY9.out.mono ?_; rintro e w10 ⟨le, hle, ao10, cp10, rfl, ho, hb⟩; have HO10 := hide ho; have B910 := hide hb; have B10 := hide (show Below W3.heap.size W3 w10 from B9.out.trans (hb.mono B9.out.size)); have K3 := VO.out w10 B10.out; have HE10 := hide (HE.out w10 ⟨ph, co, ro, aa, na, ca, ra1, cr1, wa, nw, cw, oa1, cb1, fa, nf, cf, ga, ng, cg, qa1, cq1, k0, k1, k2, k3⟩ (SH3.out _ B10.out)); clear ho hb hle)
    | (go_at_call 12; refine HE10.out.mono ?_; rintro e w11 ⟨g11, rfl, hg11, hr, hb⟩; have HR11 := hide hr; have B1011 := hide hb; have B11 := hide (show Below W3.heap.size W3 w11 from B10.out.trans (hb.mono B10.out.size)); have K4 := VO.out w11 B11.out; clear hr hb))
  clear K0 K1 K2 K3 K4 RE5 RO6 LI7 DE8 WY9 HE10 D5 D7
  go_upto_region 7 with (fail)
  have K0 := VO.out w11 B11.out
  have B011 := hide (show Below W0.heap.size W0 w11 from B03.out.trans (B11.out.mono B03.out.size))
  have K1 := VF.out w11 B011.out
  have SV11 := hide (SV.out w11 ⟨ph, co, ro, aa, na, ca, ra1, cr1, wa, nw, cw, oa1, cb1, fa, nf, cf, ga, ng, cg, qa1, cq1, k0, k1, k2, k3⟩ ⟨ph, co, ro, aa, na, ca, ra, cr, wa, nw, cw, oa, cb, fa, nf, cf, ga, ng, cg, qa, cq, k0, k1, k2, k3⟩ (SH3.out _ B11.out) (HS0.out.below B011.out))
  simp only at SV11
  have B511 := hide (show Below w5.heap.size w5 w11 from B56.out.trans ((B67.out.mono B56.out.size).trans ((B78.out.mono (by have := B56.out.size; have := B67.out.size; omega)).trans ((B89.out.mono (by have := B56.out.size; have := B67.out.size; have := B78.out.size; omega)).trans ((B910.out.mono (by have := B56.out.size; have := B67.out.size; have := B78.out.size; have := B89.out.size; omega)).trans (B1011.out.mono (by have := B56.out.size; have := B67.out.size; have := B78.out.size; have := B89.out.size; have := B910.out.size; omega)))))))
  have hNp1 : (N : Int) < (N : Int) + 1 := by omega
  go_upto_region 9 with (first
    | (go_at_call 13; refine SV11.out.mono ?_; rintro e w12 ⟨rfl, hb⟩; have B12 := hide hb; have O12 := hide (owns_on (owns_on O5.out B511.out) hb); have c71 : w12.cell? ⟨g5, N, none⟩ = some (.int .u64 71) := (by obtain ⟨b, e, _, _, h3, _⟩ := owns_cell O12.out (i := N) (u := .int .u64 71) (by rw [ucs_app, List.getElem?_append_right (by rw [ucs_len, HNl.out]; exact Nat.le_refl _), ucs_len, HNl.out, Nat.sub_self]; rfl); cases e; exact h3); have SU12 := hide (sameU (cap := p5) (cap' := fc) (sees_pre (own_seesU O12.out)) ((HL0.out.below B011.out).below hb) HNl.out (by omega)); clear hb)
    | (go_at_call 14; refine SU12.out.mono ?_; rintro e w13 ⟨rfl, m13, rfl⟩))
  clear K0 K1 SV11 SU12 c71
  obtain ⟨V, hV⟩ : ∃ V, w12.drewN m13 = V := ⟨_, rfl⟩
  have B11V := hide (show Below w11.heap.size w11 V from by rw [← hV]; exact below_drewN B12.out _)
  try rw [hV]
  clear hV B12
  have s56 := B56.out.size
  have s67 := B67.out.size
  have s78 := B78.out.size
  have s89 := B89.out.size
  have s910 := B910.out.size
  have s1011 := B1011.out.size
  have s11V := B11V.out.size
  have B0V := hide (B011.out.trans (B11V.out.mono B011.out.size))
  have B3V := hide (B11.out.trans (B11V.out.mono B11.out.size))
  have B2V := hide (show Below w2.heap.size w2 V from B3.out.trans (B3V.out.mono B3.out.size))
  have B5V := hide (B511.out.trans (B11V.out.mono B511.out.size))
  have B10V := hide (show Below w10.heap.size w10 V from B1011.out.trans (B11V.out.mono s1011))
  have B9V := hide (show Below w9.heap.size w9 V from B910.out.trans (B10V.out.mono s910))
  have B8V := hide (show Below w8.heap.size w8 V from B89.out.trans (B9V.out.mono s89))
  have B7V := hide (show Below w7.heap.size w7 V from B78.out.trans (B8V.out.mono s78))
  have B6V := hide (show Below w6.heap.size w6 V from B67.out.trans (B7V.out.mono s67))
  have BWV := hide (show Below w.heap.size w V from HB0.out.trans (B0V.out.mono (by omega)))
  have c4V : V.cell? ⟨bo, 4, none⟩ = some (.slice ra1 nr cr1) := (VO.out V B3V.out).2.2.2.2.1
  have c6V : V.cell? ⟨bo, 6, none⟩ = some (.slice oa1 n cb1) := (VO.out V B3V.out).2.2.2.2.2.2.1
  have HC4 := hide c4V
  have HC6 := hide c6V
  clear c4V c6V
  have CLV := hide (fun (j : Nat) (l : List Int) (hj : c.rs[j]? = some l) => show ∃ br ai ci, ra1 = some ⟨br, 0, none⟩ ∧ V.cell? ⟨br, j, none⟩ = some (.slice ai l.length ci) ∧ ∀ k, k < l.length → ∃ b x, ai = some ⟨b, 0, none⟩ ∧ w1.heap.size ≤ b ∧ b < w5.heap.size ∧ V.cell? ⟨b, k, none⟩ = some (.int .u64 x) ∧ V.frozen? ⟨b, k, none⟩ = false from by
    obtain ⟨br, ai, ci, h1, h2, h3, h4⟩ := CP2.out.list hj
    refine ⟨br, ai, ci, h1, (B2V.out.cell (p := ⟨br, j, none⟩) h2).trans h3, fun k hk => ?_⟩
    obtain ⟨b, x, g1, g2, g3, g4, g5⟩ := h4 k hk
    exact ⟨b, x, g1, g2, by have := Hbo.out; omega, (B2V.out.cell (p := ⟨b, k, none⟩) g3).trans g4, (below_frozen B2V.out (p := ⟨b, k, none⟩) g3).trans g5⟩)
  have COV := hide (fun (j : Nat) (o : Ob) (hj : c.os[j]? = some o) => show ∃ br ai ci, oa1 = some ⟨br, 0, none⟩ ∧ V.cell? ⟨br, j * 9 + 8, none⟩ = some (.slice ai o.sl.length ci) ∧ ∀ k, k < o.sl.length → ∃ b x, ai = some ⟨b, 0, none⟩ ∧ w1.heap.size ≤ b ∧ b < w5.heap.size ∧ V.cell? ⟨b, k, none⟩ = some (.int .u64 x) ∧ V.frozen? ⟨b, k, none⟩ = false from by
    obtain ⟨br, ai, ci, h1, h2, h3, h4⟩ := CP2.out.obj hj
    refine ⟨br, ai, ci, h1, (B2V.out.cell (p := ⟨br, j * 9 + 8, none⟩) h2).trans h3, fun k hk => ?_⟩
    obtain ⟨b, x, g1, g2, g3, g4, g5⟩ := h4 k hk
    exact ⟨b, x, g1, g2, by have := Hbo.out; omega, (B2V.out.cell (p := ⟨b, k, none⟩) g3).trans g4, (below_frozen B2V.out (p := ⟨b, k, none⟩) g3).trans g5⟩)
  have LSV := hide (fun (k : Nat) (hk : k < N + 1) => show ∃ x, V.cell? ⟨g5, k, none⟩ = some (.int .u64 x) ∧ V.frozen? ⟨g5, k, none⟩ = false from by
    obtain ⟨b, x, h1, h2, h3, h4, h5⟩ := own_words O5.out (by rw [List.length_append, HNl.out]; rfl) hk
    cases h1
    exact ⟨x, (B5V.out.cell (p := ⟨g5, k, none⟩) h3).trans h4, (below_frozen B5V.out (p := ⟨g5, k, none⟩) h3).trans h5⟩)
  have DV := hide (fun (k : Nat) (hk : k < nd) => show ∃ b x, ao9 = some ⟨b, 0, none⟩ ∧ w8.heap.size ≤ b ∧ b < w10.heap.size ∧ V.cell? ⟨b, k, none⟩ = some (.int .i64 x) ∧ V.frozen? ⟨b, k, none⟩ = false from by
    obtain ⟨b, x, h1, h2, h3, h4, h5⟩ := own_nums HO9.out Hnd.out hk
    exact ⟨b, x, h1, h2, by omega, (B9V.out.cell (p := ⟨b, k, none⟩) h3).trans h4, (below_frozen B9V.out (p := ⟨b, k, none⟩) h3).trans h5⟩)
  obtain ⟨ne, hne⟩ : ∃ ne, le.length = ne := ⟨_, rfl⟩
  rw [hne] at HO10
  try rw [hne]
  have EV := hide (fun (k : Nat) (hk : k < ne) => show ∃ b x, ao10 = some ⟨b, 0, none⟩ ∧ w8.heap.size ≤ b ∧ b < w10.heap.size ∧ V.cell? ⟨b, k, none⟩ = some (.int .i64 x) ∧ V.frozen? ⟨b, k, none⟩ = false from by
    obtain ⟨b, x, h1, h2, h3, h4, h5⟩ := own_nums HO10.out hne hk
    exact ⟨b, x, h1, by omega, h3, (B10V.out.cell (p := ⟨b, k, none⟩) h3).trans h4, (below_frozen B10V.out (p := ⟨b, k, none⟩) h3).trans h5⟩)
  have hne63 : ne ≤ 9223372036854775807 := by
    rcases Nat.eq_zero_or_pos ne with h | h
    · omega
    · obtain ⟨g, _, _, _, h1, h2⟩ := own_some HO10.out h
      unfold maxLen at h2
      omega
  have hg5b : g5 < w5.heap.size := hg5'
  clear hne CP2 B2V O5 HO9 HO10 hg5' SL5 HL3 SH3 VO RB B3 B5 B6 B7 B8 B9 B10 B56 B67 B78 B89 B910 B1011 B511 CO RE RO DE WY HE SV
  go_wp2_with fail
  go_loopw [13] (fun v wr => ∃ i : Nat, i ≤ nr ∧ v = .int .i64 i ∧ Hid (Kw V wr (Zn w1.heap.size w5.heap.size w8.heap.size w10.heap.size) w1.heap.size)) (fun v _ => nr - (intOf v).toNat)
  case atStart => exact ⟨0, Nat.zero_le _, rfl, Kw.refl _ _ _⟩
  case round =>
    as_aux_lemma =>
      obtain ⟨i, hi, rfl, KA⟩ := hrel
      have c4 := KA.out.slice HC4.out
      by_cases hlt : i < nr
      · as_aux_lemma =>
          have hin : (i : Int) < (nr : Int) := by omega
          obtain ⟨x0, hx0⟩ : ∃ x0, c.rs[i]? = some x0 := ⟨c.rs[i]'(by rw [Hnr.out]; exact hlt), by simp [Hnr.out, hlt]⟩
          obtain ⟨br, ai, ci, hra, hcc, hw⟩ := CLV.out i x0 hx0
          have LW := hide hw
          obtain ⟨xl, hxl⟩ : ∃ xl, xl = x0 := ⟨_, rfl⟩
          subst hxl
          have hxb := HZ.out.rl xl (List.mem_of_getElem? hx0)
          obtain ⟨m', hm'⟩ : ∃ m', xl.length = m' := ⟨_, rfl⟩
          rw [hm'] at hcc hxb LW
          clear hw
          subst hra
          have HCC := hide hcc
          have hcc2 := KA.out.slice hcc
          clear hcc
          obtain ⟨wo, rfl⟩ : ∃ wo, wo = wr := ⟨_, rfl⟩
          go_wp2_with fail
          clear c4 hcc2
          go_loopw [14] (fun v wx => ∃ k : Nat, k ≤ m' ∧ v = .int .i64 k ∧ Hid (Kw V wx (Zn w1.heap.size w5.heap.size w8.heap.size w10.heap.size) w1.heap.size)) (fun v _ => m' - (intOf v).toNat)
          case atStart => exact ⟨0, Nat.zero_le _, rfl, KA.out⟩
          case round =>
            obtain ⟨k, hk, rfl, KX⟩ := hrel
            have c4 := KX.out.slice HC4.out
            have hcc := KX.out.slice HCC.out
            by_cases hlk : k < m'
            · have hkn : (k : Int) < (m' : Int) := by omega
              obtain ⟨b, x, hai, hlo, hhi, hcx, hfz⟩ := LW.out k hlk
              subst hai
              obtain ⟨y, hy⟩ := KX.out.num _ _ _ hcx
              have hf := (KX.out.fz ⟨b, k, none⟩).trans hfz
              have KS := hide (KX.out.step hcx (.inl ⟨hlo, hhi⟩) hlo 72)
              clear hcx hfz
              go_wp2_with fail
              go_roundw
              case rel => exact ⟨k + 1, by omega, by go_num, KS.out⟩
              case measure => simp [intOf]; omega
            · obtain rfl : k = m' := by omega
              have hkk : ¬ (k : Int) < (k : Int) := by omega
              go_wp2_with fail
              go_roundw
              case rel => exact ⟨i + 1, by omega, by go_num, KX.out⟩
              case measure => simp [intOf]; omega
      · as_aux_lemma =>
          obtain rfl : nr = i := by omega
          have hii : ¬ (nr : Int) < (nr : Int) := by omega
          obtain ⟨Wn, hWn⟩ : ∃ Wn, Wn = wr := ⟨_, rfl⟩
          subst hWn
          go_wp2_with fail
          go_loopw [15] (fun v wr => ∃ i : Nat, i ≤ n ∧ v = .int .i64 i ∧ Hid (Kw V wr (Zn w1.heap.size w5.heap.size w8.heap.size w10.heap.size) w1.heap.size)) (fun v _ => n - (intOf v).toNat)
          case atStart => exact ⟨0, Nat.zero_le _, rfl, KA.out⟩
          case round =>
            as_aux_lemma =>
              obtain ⟨i, hi, rfl, KA⟩ := hrel
              have c4 := KA.out.slice HC6.out
              by_cases hlt : i < n
              · as_aux_lemma =>
                  have hin : (i : Int) < (n : Int) := by omega
                  obtain ⟨x0, hx0⟩ : ∃ x0, c.os[i]? = some x0 := ⟨c.os[i]'(by rw [Hn.out]; exact hlt), by simp [Hn.out, hlt]⟩
                  obtain ⟨br, ai, ci, hra, hcc, hw⟩ := COV.out i x0 hx0
                  have LW := hide hw
                  obtain ⟨xl, hxl⟩ : ∃ xl, x0.sl = xl := ⟨_, rfl⟩
                  have hxb := HZ.out.sl x0 (List.mem_of_getElem? hx0)
                  rw [hxl] at hcc hxb LW
                  obtain ⟨m', hm'⟩ : ∃ m', xl.length = m' := ⟨_, rfl⟩
                  rw [hm'] at hcc hxb LW
                  clear hw
                  subst hra
                  have HCC := hide hcc
                  have hcc2 := KA.out.slice hcc
                  clear hcc
                  obtain ⟨wo, rfl⟩ : ∃ wo, wo = wr := ⟨_, rfl⟩
                  go_wp2_with fail
                  clear c4 hcc2
                  go_loopw [16] (fun v wx => ∃ k : Nat, k ≤ m' ∧ v = .int .i64 k ∧ Hid (Kw V wx (Zn w1.heap.size w5.heap.size w8.heap.size w10.heap.size) w1.heap.size)) (fun v _ => m' - (intOf v).toNat)
                  case atStart => exact ⟨0, Nat.zero_le _, rfl, KA.out⟩
                  case round =>
                    obtain ⟨k, hk, rfl, KX⟩ := hrel
                    have c4 := KX.out.slice HC6.out
                    have hcc := KX.out.slice HCC.out
                    by_cases hlk : k < m'
                    · have hkn : (k : Int) < (m' : Int) := by omega
                      obtain ⟨b, x, hai, hlo, hhi, hcx, hfz⟩ := LW.out k hlk
                      subst hai
                      obtain ⟨y, hy⟩ := KX.out.num _ _ _ hcx
                      have hf := (KX.out.fz ⟨b, k, none⟩).trans hfz
                      have KS := hide (KX.out.step hcx (.inl ⟨hlo, hhi⟩) hlo 73)
                      clear hcx hfz
                      go_wp2_with fail
                      go_roundw
                      case rel => exact ⟨k + 1, by omega, by go_num, KS.out⟩
                      case measure => simp [intOf]; omega
                    · obtain rfl : k = m' := by omega
                      have hkk : ¬ (k : Int) < (k : Int) := by omega
                      go_wp2_with fail
                      go_roundw
                      case rel => exact ⟨i + 1, by omega, by go_num, KX.out⟩
                      case measure => simp [intOf]; omega
              · as_aux_lemma =>
                  obtain rfl : n = i := by omega
                  have hii : ¬ (n : Int) < (n : Int) := by omega
                  obtain ⟨Wn, hWn⟩ : ∃ Wn, Wn = wr := ⟨_, rfl⟩
                  subst hWn
                  go_wp2_with fail
                  go_loopw [17] (fun v wr => ∃ i : Nat, i ≤ N ∧ v = .int .i64 i ∧ Hid (Kw V wr (Zn w1.heap.size w5.heap.size w8.heap.size w10.heap.size) w1.heap.size)) (fun v _ => N - (intOf v).toNat)
                  case atStart => exact ⟨0, Nat.zero_le _, rfl, KA.out⟩
                  case round =>
                    as_aux_lemma =>
                      obtain ⟨i, hi, rfl, KA⟩ := hrel
                      by_cases hlt : i < N
                      · as_aux_lemma =>
                          have hin : (i : Int) < (N : Int) := by omega
                          obtain ⟨x, hcx, hfz⟩ := LSV.out i (by omega)
                          have hi1 : (i : Int) < (N : Int) + 1 := by omega
                          obtain ⟨y, hy⟩ := KA.out.num _ _ _ hcx
                          have hf := (KA.out.fz _).trans hfz
                          have KS := hide (KA.out.step hcx (.inl ⟨by show w1.heap.size ≤ g5; have := Hbo.out; omega, hg5b⟩) (by show w1.heap.size ≤ g5; have := Hbo.out; omega) 74)
                          clear hcx hfz
                          go_wp2_with fail
                          go_roundw
                          case rel => exact ⟨i + 1, by omega, by go_num, KS.out⟩
                          case measure => simp [intOf]; omega
                      · as_aux_lemma =>
                          obtain rfl : N = i := by omega
                          have hii : ¬ (N : Int) < (N : Int) := by omega
                          obtain ⟨Wn, hWn⟩ : ∃ Wn, Wn = wr := ⟨_, rfl⟩
                          subst hWn
                          go_wp2_with fail
                          go_loopw [18] (fun v wr => ∃ i : Nat, i ≤ ne ∧ v = .int .i64 i ∧ Hid (Kw V wr (Zn w1.heap.size w5.heap.size w8.heap.size w10.heap.size) w1.heap.size)) (fun v _ => ne - (intOf v).toNat)
                          case atStart => exact ⟨0, Nat.zero_le _, rfl, KA.out⟩
                          case round =>
                            as_aux_lemma =>
                              obtain ⟨i, hi, rfl, KA⟩ := hrel
                              by_cases hlt : i < ne
                              · as_aux_lemma =>
                                  have hin : (i : Int) < (ne : Int) := by omega
                                  obtain ⟨b, x, hai, hlo, hhi, hcx, hfz⟩ := EV.out i hlt
                                  subst hai
                                  obtain ⟨y, hy⟩ := KA.out.num _ _ _ hcx
                                  have hf := (KA.out.fz _).trans hfz
                                  have KS := hide (KA.out.step hcx (.inr ⟨hlo, hhi⟩) (by show w1.heap.size ≤ b; have := Hbo.out; omega) 75)
                                  clear hcx hfz
                                  go_wp2_with fail
                                  go_roundw
                                  case rel => exact ⟨i + 1, by omega, by go_num, KS.out⟩
                                  case measure => simp [intOf]; omega
                              · as_aux_lemma =>
                                  obtain rfl : ne = i := by omega
                                  have hii : ¬ (ne : Int) < (ne : Int) := by omega
                                  obtain ⟨Wn, hWn⟩ : ∃ Wn, Wn = wr := ⟨_, rfl⟩
                                  subst hWn
                                  go_wp2_with fail
                                  go_loopw [19] (fun v wr => ∃ i : Nat, i ≤ nd ∧ v = .int .i64 i ∧ Hid (Kw V wr (Zn w1.heap.size w5.heap.size w8.heap.size w10.heap.size) w1.heap.size)) (fun v _ => nd - (intOf v).toNat)
                                  case atStart => exact ⟨0, Nat.zero_le _, rfl, KA.out⟩
                                  case round =>
                                    as_aux_lemma =>
                                      obtain ⟨i, hi, rfl, KA⟩ := hrel
                                      by_cases hlt : i < nd
                                      · as_aux_lemma =>
                                          have hin : (i : Int) < (nd : Int) := by omega
                                          obtain ⟨b, x, hai, hlo, hhi, hcx, hfz⟩ := DV.out i hlt
                                          subst hai
                                          obtain ⟨y, hy⟩ := KA.out.num _ _ _ hcx
                                          have hf := (KA.out.fz _).trans hfz
                                          have KS := hide (KA.out.step hcx (.inr ⟨hlo, hhi⟩) (by show w1.heap.size ≤ b; have := Hbo.out; omega) 76)
                                          clear hcx hfz
                                          go_wp2_with fail
                                          go_roundw
                                          case rel => exact ⟨i + 1, by omega, by go_num, KS.out⟩
                                          case measure => simp [intOf]; omega
                                      · as_aux_lemma =>
                                          obtain rfl : nd = i := by omega
                                          have hii : ¬ (nd : Int) < (nd : Int) := by omega
                                          obtain ⟨Wn, hWn⟩ : ∃ Wn, Wn = wr := ⟨_, rfl⟩
                                          subst hWn
                                          have lg8 := HR8.out.lt
                                          have nz8 : ¬ Zn w1.heap.size w5.heap.size w8.heap.size w10.heap.size g8 := by
                                            have h8 : w7.heap.size ≤ g8 := hg8
                                            unfold Zn
                                            omega
                                          have R8w := hide (KA.out.row (row_on HR8.out B8V.out) nz8)
                                          go_wp2_with fail
                                          go_loopw [20] (fun v wr => ∃ (i : Nat) (f : Nat → Bool), i ≤ n ∧ v = .int .i64 i ∧ Hid (wr.rowIs g8 4 n (fun k => .bool (f k))) ∧ Hid (Below w1.heap.size Wn wr) ∧ Hid (∀ k, k ≠ g8 → wr.heap[k]? = Wn.heap[k]?)) (fun v _ => n - (intOf v).toNat)
                                          case atStart => exact ⟨0, _, Nat.zero_le _, rfl, R8w.out, Below.refl _ _, fun _ _ => rfl⟩
                                          case round =>
                                            as_aux_lemma =>
                                              obtain ⟨i, f, hi, rfl, RA, BA, SA⟩ := hrel
                                              by_cases hlt : i < n
                                              · have hin : (i : Int) < (n : Int) := by omega
                                                have hc := RA.out.cell hlt
                                                have hf := RA.out.frozen i
                                                have h8 : w7.heap.size ≤ g8 := hg8
                                                have lo8 : w1.heap.size ≤ g8 := by have := Hbo.out; omega
                                                go_wp2_with fail
                                                go_roundw
                                                case rel =>
                                                  refine ⟨i + 1, fun k => if k = i then false else f k, by omega, by go_num, ?_, BA.out.setCell lo8 _, fun k hk => (Below.heap_setCell _ _ _ _ hk).trans (SA.out k hk)⟩
                                                  refine (RA.out.set i (.bool false)).congr (fun k hk => ?_)
                                                  by_cases e : k = i
                                                  · subst e; simp
                                                  · simp [e]
                                                case measure => simp [intOf]; omega
                                              · as_aux_lemma =>
                                                  obtain rfl : n = i := by omega
                                                  have hii2 : ¬ (n : Int) < (n : Int) := by omega
                                                  obtain ⟨Wz, hWz⟩ : ∃ Wz, Wz = wr := ⟨_, rfl⟩
                                                  subst hWz
                                                  have h8 : w7.heap.size ≤ g8 := hg8
                                                  have h6 : w5.heap.size ≤ g6 := hg6
                                                  have h11 : w10.heap.size ≤ g11 := hg11
                                                  have l6 := HR6.out.lt
                                                  have l11 := HR11.out.lt
                                                  have n6 : ¬ Zn w1.heap.size w5.heap.size w8.heap.size w10.heap.size g6 := by unfold Zn; omega
                                                  have n11 : ¬ Zn w1.heap.size w5.heap.size w8.heap.size w10.heap.size g11 := by unfold Zn; omega
                                                  have Q6 := hide ((KA.out.row (row_on HR6.out B6V.out) n6).of_block (SA.out g6 (by omega)))
                                                  have Q11 := hide ((KA.out.row (row_on HR11.out B11V.out) n11).of_block (SA.out g11 (by omega)))
                                                  have Q7 := hide (own_same (KA.out.own (owns_on HO7.out B7V.out) (fun g e => by have := HO7.out.lt g e; unfold Zn; omega)) SA.out (fun e => by have := HO7.out.lt _ e; omega))
                                                  have BZ := hide (show Below W0.heap.size W0 Wz from B0V.out.trans ((KA.out.b.trans BA.out).mono z1))
                                                  have BWZ := hide (show Below w.heap.size w Wz from HB0.out.trans (BZ.out.mono (by omega)))
                                                  have SZ := hide (fun (wx : World) (hb : Below Wz.heap.size Wz wx) => HS0.out.below (BZ.out.trans (hb.mono BZ.out.size)))
                                                  have LZ := hide (fun (wx : World) (hb : Below Wz.heap.size Wz wx) => HL0.out.below (BZ.out.trans (hb.mono BZ.out.size)))
                                                  have VZ := hide (fun (wx : World) (hb : Below Wz.heap.size Wz wx) => VF.out wx (BZ.out.trans (hb.mono BZ.out.size)))
                                                  have SB := hide (fun (wx : World) (g g' : Nat) (f : Nat → Bool) (h : wx.rowIs g 4 n (fun k => .bool (f k))) (h' : wx.rowIs g' 4 n (fun k => .bool (f k))) => sameRow h h' (show n ≤ 9223372036854775807 by omega))
                                                  have LIZ := hide (fun (wx : World) (hb : Below Wz.heap.size Wz wx) => LI.out wx ⟨ph, co, ro, aa, na, ca, ra, cr, wa, nw, cw, oa, cb, fa, nf, cf, ga, ng, cg, qa, cq, k0, k1, k2, k3⟩ (SZ.out wx hb))
                                                  simp only at LIZ
                                                  clear KA SA RA HR6 HR8 HR11 HO7 R8w CLV COV LSV DV EV HC4 HC6 B0V B3V B5V B10V B9V B8V B7V B6V BWV B11V
                                                  go_upto_region 39 with (fail)
                                                  have D0 : Below Wz.heap.size Wz Wz.drew := drew_on (Below.refl _ _)
                                                  have K0 := VZ.out _ D0
                                                  have RRz := hide (RR.out _ (SZ.out _ D0) (LZ.out _ D0))
                                                  go_region_held (fun w' => w'.cell? ⟨w.heap.size, 0, none⟩ = some (.int .i64 ph) ∧ w'.cell? ⟨w.heap.size, 1, none⟩ = some (.int .i64 co) ∧ w'.cell? ⟨w.heap.size, 2, none⟩ = some (.int .u64 ro) ∧ w'.cell? ⟨w.heap.size, 3, none⟩ = some (.slice aa na ca) ∧ w'.cell? ⟨w.heap.size, 4, none⟩ = some (.slice ra nr cr) ∧ w'.cell? ⟨w.heap.size, 5, none⟩ = some (.slice wa nw cw) ∧ w'.cell? ⟨w.heap.size, 6, none⟩ = some (.slice oa n cb) ∧ w'.cell? ⟨w.heap.size, 7, none⟩ = some (.slice fa nf cf) ∧ w'.cell? ⟨w.heap.size, 8, none⟩ = some (.slice ga ng cg) ∧ w'.cell? ⟨w.heap.size, 9, none⟩ = some (.slice qa nqz cq) ∧ w'.cell? ⟨w.heap.size, 10, none⟩ = some (.int .u64 k0) ∧ w'.cell? ⟨w.heap.size, 11, none⟩ = some (.int .u64 k1) ∧ w'.cell? ⟨w.heap.size, 12, none⟩ = some (.int .u64 k2) ∧ w'.cell? ⟨w.heap.size, 13, none⟩ = some (.int .u64 k3)) (first | exact K0 | exact K1 | exact K2 | exact K3 | exact K4 | exact K5 | exact K6 | exact K7 | exact K8 | exact K9) (first
                                                    | (go_at_call 16; refine RRz.out.mono ?_; rintro e x1 ⟨g1, rfl, hg, hr, hb⟩; have E1 := hide (D0.trans hb); have K1 := VZ.out x1 E1.out; have Q6' := hide (row_on Q6.out E1.out); have SB1 := hide (SB.out x1 g6 g1 _ Q6'.out hr); clear hr hb hg)
                                                    | (go_at_call_of 15 (Value.slice (some ⟨g6, 0, none⟩) n n); refine SB1.out.mono ?_; rintro e x2 ⟨rfl, hb, _⟩; have E2 := hide (E1.out.trans (hb.mono E1.out.size)); have K2 := VZ.out x2 E2.out; have QO2 := hide (QO.out x2 (SZ.out x2 E2.out)); clear hb)
                                                    | (go_at_call 17; refine QO2.out.mono ?_; rintro e x3 ⟨ao3, cp3, rfl, ho, hb⟩; rw [Hm.out] at ho; (try rw [Hm.out]); have E3 := hide (E2.out.trans (hb.mono E2.out.size)); have K3 := VZ.out x3 E3.out; have SU3 := hide (sameOwnU (owns_on Q7.out E3.out) ho Hm.out (by omega)); clear ho hb)
                                                    | (go_at_call 14; refine SU3.out.mono ?_; rintro e x4 ⟨rfl, hb, _⟩; have E4 := hide (E3.out.trans (hb.mono E3.out.size)); have K4 := VZ.out x4 E4.out; have QH4 := hide (QH.out x4 (SZ.out x4 E4.out)); clear hb)
                                                    | (go_at_call 18; refine QH4.out.mono ?_; rintro e x5 ⟨g5', rfl, hg, hr, hb⟩; have E5 := hide (E4.out.trans (hb.mono E4.out.size)); have K5 := VZ.out x5 E5.out; have SB5 := hide (SB.out x5 g11 g5' _ (row_on Q11.out E5.out) hr); clear hr hb hg)
                                                    | (go_at_call_of 15 (Value.slice (some ⟨g11, 0, none⟩) n n); refine SB5.out.mono ?_; rintro e x6 ⟨rfl, hb, _⟩; have E6 := hide (E5.out.trans (hb.mono E5.out.size)); have K6 := VZ.out x6 E6.out; have LI6 := hide (LIZ.out x6 E6.out); clear hb)
                                                    | (go_at_call 9; refine LI6.out.mono ?_; rintro e x7 ⟨g7, rfl, hg, hr, hb⟩; have E7 := hide (E6.out.trans (hb.mono E6.out.size)); have HR7 := hide hr; have K7 := VZ.out x7 E7.out; have QL7 := hide (QL.out x7 (SZ.out x7 E7.out)); clear hr hb hg)
                                                    | (go_at_call 19; refine QL7.out.mono ?_; rintro e y8 ⟨g9, rfl, hg, hr, hb⟩; have E8 := hide (E7.out.trans (hb.mono E7.out.size)); have K8 := VZ.out y8 E8.out; have SB8 := hide (SB.out y8 g7 g9 _ (row_on HR7.out hb) hr); clear hr hb hg)
                                                    | (go_at_call 15; refine SB8.out.mono ?_; rintro e y9 ⟨rfl, hb, _⟩; have E9 := hide (E8.out.trans (hb.mono E8.out.size)); have K9 := VZ.out y9 E9.out; clear hb))
                                                  go_wp2_with fail
                                                  go_ret
                                                  exact ⟨rfl, BWZ.out.trans (E9.out.mono (by have := BWZ.out.size; omega))⟩
end Gr
end Go.Proofs.Ytlbcjolbgeficaa
