/-
  Graph: walked: who stands ahead of each that is reached
-/
import Derived.Test.YtlbcjolbgeficaaGrC
import Derived.Test.YtlbcjolbgeficaaLz
namespace Go.Proofs.Ytlbcjolbgeficaa
open Go.RowKit
set_option linter.unusedVariables false
set_option linter.unusedSimpArgs false
set_option linter.unnecessarySimpa false
set_option maxRecDepth 20000
namespace Gr
theorem infoN : (Try.prog.info? 3).map (fun i => (i.zero, i.size, i.bytes)) = some (some (.int .i64 0), 1, 8) := by kernel_rfl
theorem infoBb : (Try.prog.info? 4).map (fun i => (i.zero, i.size, i.bytes)) = some (some (.bool false), 1, 1) := by kernel_rfl
/-- What walked tells. -/
def Wt (w w' : World) (e : Ending) (os : List Ob) (l : List Int) : Prop := ∃ (s : Wk) (g : Nat), e = .returned (.slice (some ⟨g, 0, none⟩) os.length os.length) ∧ w.heap.size ≤ g ∧ Gi os l s.ln.length s ∧ w'.rowIs g 3 os.length (fun i => .int .i64 (s.A i)) ∧ Below w.heap.size w w'

theorem rows_made (w : World) (z : Value) (t : TypeId) (n : Nat) : (w.alloc (.cells (madeCells #[z] n) t)).rowIs w.heap.size t n (fun _ => z) := World.rowIs_made w z n t

set_option maxHeartbeats 4000000 in
theorem walked_ok {w : World} {oa : Option Addr} {cb : Nat} {os : List Ob} {fa : Option Addr} {fc : Nat} {l : List Int}
    (hS : Sob w oa os) (hL : SeesU w fa l) (hBd : Bd os) (hW : Wd l) (hll : l.length ≤ 35184372088832) :
    Calls Try.prog 22 #[.slice oa os.length cb, .slice fa l.length fc] w fun e w' => Wt w w' e os l := by
  have HS := hide hS
  have HL := hide hL
  have HBd := hide hBd
  have HW := hide hW
  have hno := hBd.no
  obtain ⟨B, hB⟩ : ∃ B, w.heap.size = B := ⟨_, rfl⟩
  obtain ⟨n, hn⟩ : ∃ n, os.length = n := ⟨_, rfl⟩
  obtain ⟨N, hN⟩ : ∃ N, l.length = N := ⟨_, rfl⟩
  have hnB : n ≤ 4398046511104 := by omega
  have hmk := run_make_row' (P := Try.prog) 26 3 _ 8 Try.underlying26 infoN rfl .i64 .i64 n (by omega) (by omega)
  have HN := hide hN
  have Hn := hide hn
  have Hll := hide hll
  rw [hn, hN]
  obtain ⟨W3, hW3⟩ : ∃ W3, (((w.alloc (.cells #[.slice oa n cb] 25)).alloc (.cells (madeCells #[.int .i64 0] n) 3)).alloc (.cells #[.slice (some ⟨B + 1, 0, none⟩) n n] 26)).alloc (.cells #[.slice none 0 0] 26) = W3 := ⟨_, rfl⟩
  have B3 : Below B w W3 := by
    rw [← hW3, ← hB]
    exact ((((Below.refl _ w).alloc (Nat.le_refl _) _).alloc (by simp) _).alloc (by simp; omega) _).alloc (by simp; omega) _
  have M3 : Wm W3 B oa cb os ⟨fun _ => 0, []⟩ (.slice none 0 0) := by
    rw [← hW3]
    refine ⟨?_, ?_, ?_, ?_, ?_⟩
    · have := (((rowL_alloc w [.slice oa n cb] 25 (n := 1) rfl).alloc (.cells (madeCells #[.int .i64 0] n) 3)).alloc (.cells #[.slice (some ⟨B + 1, 0, none⟩) n n] 26)).alloc (.cells #[.slice none 0 0] 26)
      rw [hB] at this
      refine this.congr (fun i hi => ?_)
      obtain rfl : i = 0 := by omega
      rw [hn]; rfl
    · have := ((rows_made (w.alloc (.cells #[.slice oa n cb] 25)) (.int .i64 0) 3 n).alloc (.cells #[.slice (some ⟨B + 1, 0, none⟩) n n] 26)).alloc (.cells #[.slice none 0 0] 26)
      rw [hn]
      simpa [hB] using this
    · have := (rowL_alloc ((w.alloc (.cells #[.slice oa n cb] 25)).alloc (.cells (madeCells #[.int .i64 0] n) 3)) [.slice (some ⟨B + 1, 0, none⟩) n n] 26 (n := 1) rfl).alloc (.cells #[.slice none 0 0] 26)
      simp [hB] at this
      refine this.congr (fun i hi => ?_)
      obtain rfl : i = 0 := by omega
      rw [hn]; rfl
    · have := (rowL_alloc (((w.alloc (.cells #[.slice oa n cb] 25)).alloc (.cells (madeCells #[.int .i64 0] n) 3)).alloc (.cells #[.slice (some ⟨B + 1, 0, none⟩) n n] 26)) [.slice none 0 0] 26 (n := 1) rfl)
      simp [hB] at this
      refine this.congr (fun i hi => ?_)
      obtain rfl : i = 0 := by omega
      rfl
    · exact ⟨rfl, .inl ⟨rfl, rfl⟩⟩
  have WK := hide (walk_ok (hc := fc) hS hL hB B3 M3 hBd hW hll (ah := -1) (by decide) (by intro k _; simp [Wk.a]) List.nodup_nil (by simp))
  rw [hN] at WK
  have G0 := hide (gi_start os l)
  have HB := hide hB
  clear hS hL hBd hW hno hn hN hll B3 M3
  have L2 : B = w.heap.size := HB.out.symm
  subst L2
  go_enter Try.func22, Try.ntmps22
  go_upto_region 5 with (go_at_call 28; refine WK.out.mono ?_; rintro e w4 ⟨rfl, ho⟩; have HO := hide ho; clear ho)
  clear hmk hW3 WK
  go_wp2_with fail
  go_loopw [8] (fun i wr => ∃ (k : Nat) (s : Wk), k ≤ n ∧ i = .int .i64 k ∧ Hid (Gi os l k s) ∧ Hid (Wo w wr w.heap.size oa cb os s)) (fun i _ => n - (intOf i).toNat)
  case atStart => exact ⟨0, _, Nat.zero_le _, rfl, G0.out, HO.out⟩
  case round =>
    obtain ⟨k, s, hk, rfl, HG, HO2⟩ := hrel
    obtain ⟨lv, M, HBw⟩ := HO2.out
    obtain ⟨la, cp, rfl⟩ := own_slice M.ln
    obtain ⟨sn, hsn⟩ : ∃ sn, s.ln.length = sn := ⟨_, rfl⟩
    have HSn := hide hsn
    have hsl : sn ≤ n := by rw [← hsn, ← Hn.out]; exact HG.out.len
    have HM := hide M
    have HBW := hide HBw
    have c3 : wr.cell? ⟨w.heap.size + 1 + 1 + 1, 0, none⟩ = some (.slice la sn cp) := by rw [← hsn]; exact M.bl.cell (i := 0) (by decide)
    by_cases hlt : k < sn
    · have hkn : (k : Int) < (sn : Int) := by omega
      obtain ⟨p, hp⟩ : ∃ p, s.ln[k]? = some p := ⟨s.ln[k]'(by rw [hsn]; exact hlt), by simp [hsn, hlt]⟩
      have hpr := HG.out.rng p (List.mem_of_getElem? hp)
      obtain ⟨q, rfl⟩ : ∃ q : Nat, p = (q : Int) + 1 := ⟨p.toNat - 1, by omega⟩
      have hqn : q < n := by rw [← Hn.out]; omega
      have hqn2 : (q : Int) < (n : Int) := by omega
      obtain ⟨o, ho⟩ : ∃ o, os[q]? = some o := ⟨os[q]'(by rw [Hn.out]; exact hqn), by simp [Hn.out, hqn]⟩
      have hcell : ∃ g, la = some ⟨g, 0, none⟩ ∧ wr.cell? ⟨g, k, none⟩ = some (.int .i64 ((q : Int) + 1)) := by
        obtain ⟨g, e, _, _, hc, _⟩ := owns_cell M.ln (ncs_get hp)
        exact ⟨g, e, hc⟩
      obtain ⟨g, rfl, cg⟩ := hcell
      have c0 : wr.cell? ⟨w.heap.size, 0, none⟩ = some (.slice oa n cb) := by rw [← Hn.out]; exact M.bo.cell (i := 0) (by decide)
      obtain ⟨b, off, ai, ci, hoa, hbl, hoc, hse⟩ := HS.out.below HBw q o ho
      have c8 : wr.cell? ⟨b, off + q * 9 + 8, none⟩ = some (.slice ai o.sl.length ci) := hoc 8 (by decide)
      obtain ⟨b', off', ai', ci', hoa', hbl', hoc', hse'⟩ := HS.out q o ho
      have hsame : ai = ai' ∧ ci = ci' := by
        rw [hoa] at hoa'
        cases hoa'
        have h1 := hoc' 8 (by decide)
        have h2 := (HBw.cell (p := ⟨b, off + q * 9 + 8, none⟩) hbl').trans h1
        rw [c8] at h2
        simp [Ob.cell] at h2
        exact h2
      obtain ⟨rfl, rfl⟩ := hsame
      subst hoa
      have hom := List.mem_of_getElem? ho
      have WK := hide (walk_ok (hc := ci) HS.out hse' rfl (show Below _ w wr.drew from ⟨HBw.os, HBw.tape, HBw.output, HBw.size, HBw.block⟩) (M.on (show Below _ wr wr.drew from ⟨rfl, rfl, rfl, Nat.le_refl _, fun _ _ => rfl⟩)) HBd.out (HBd.out.sl o hom) (HBd.out.ns o hom) (ah := (q : Int) + 1) (by omega) HG.out.me HG.out.nd HG.out.rng)
      have GS := hide (gi_step HG.out hp (show os[((q : Int) + 1).toNat - 1]? = some o by rw [show ((q : Int) + 1).toNat - 1 = q by omega]; exact ho))
      obtain ⟨P, hP⟩ : ∃ P : Int, (q : Int) + 1 = P := ⟨_, rfl⟩
      have HP := hide hP
      rw [hP] at cg WK GS
      clear M HBw hP hoc hse hoc' hse' hoa' hbl hbl' hpr hp hom ho hsn HO2
      go_upto_region 8 with (fail)
      have hWq : IntKind.i64.wrap (P - 1) = (q : Int) := by have := HP.out; rw [IntKind.wrap_i64]; omega
      refine Lz.region (m := 14) (ks := [(0, 22), (1, 23), (2, 24), (3, 25), (4, 26), (5, 27), (6, 28), (7, 29), (8, 30), (9, 31), (10, 32), (11, 33), (12, 34), (13, 35)]) (vals := fun iv => match iv with
          | 0 => .func (.func 28) #[] #[.pointer (some ⟨w.heap.size + 1 + 1 + 1, 0, none⟩), .pointer (some ⟨w.heap.size, 0, none⟩), .pointer (some ⟨w.heap.size + 1 + 1, 0, none⟩)]
          | 1 => .slice (some ⟨g, 0, none⟩) sn cp
          | 2 => .int .i64 (k : Int)
          | 3 => .pointer (some ⟨g, k, none⟩)
          | 4 => .int .i64 P
          | 5 => .slice (some ⟨b, off, none⟩) n cb
          | 6 => .slice (some ⟨g, 0, none⟩) sn cp
          | 7 => .int .i64 (k : Int)
          | 8 => .pointer (some ⟨g, k, none⟩)
          | 9 => .int .i64 P
          | 10 => .int .i64 (q : Int)
          | 11 => .pointer (some ⟨b, off + q * 9, none⟩)
          | 12 => .pointer (some ⟨b, off + q * 9 + 8, none⟩)
          | 13 => .slice ai o.sl.length ci
          | _ => undef) (by kernel_rfl) rfl ?bk rfl ?dd ?cl ?gd ?does ?last
      case bk =>
        intro iq oq ho
        have hiq : iq < 15 := by have := (Array.getElem?_eq_some_iff.1 ho).1; simpa using this
        match iq, hiq with
        | 0, _ | 1, _ | 2, _ | 3, _ | 4, _ | 5, _ | 6, _ | 7, _ | 8, _ | 9, _ | 10, _ | 11, _ | 12, _ | 13, _ | 14, _ => injection ho with ho; subst ho; simp [Region.binds]
      case dd =>
        intro k hk
        have hk' : k < 38 := by
          simp [Lt.D] at hk
          omega
        simpa using hk'
      case gd => intro oq ho; injection ho with ho; subst ho; rfl
      case cl =>
        intro L hC hd
        have l13 : L 13 = true := hd _ rfl ⟨13, .data⟩ (by simp) rfl
        have l12 : L 12 = true := hC 13 _ rfl l13 ⟨12, .data⟩ (by simp) rfl
        have l11 : L 11 = true := hC 12 _ rfl l12 ⟨11, .data⟩ (by simp) rfl
        have l10 : L 10 = true := hC 11 _ rfl l11 ⟨10, .data⟩ (by simp) rfl
        have l9 : L 9 = true := hC 10 _ rfl l10 ⟨9, .data⟩ (by simp) rfl
        have l8 : L 8 = true := hC 9 _ rfl l9 ⟨8, .data⟩ (by simp) rfl
        have l7 : L 7 = true := hC 8 _ rfl l8 ⟨7, .data⟩ (by simp) rfl
        have l6 : L 6 = true := hC 8 _ rfl l8 ⟨6, .data⟩ (by simp) rfl
        have l5 : L 5 = true := hC 11 _ rfl l11 ⟨5, .data⟩ (by simp) rfl
        have l4 : L 4 = true := hd _ rfl ⟨4, .data⟩ (by simp) rfl
        have l3 : L 3 = true := hC 4 _ rfl l4 ⟨3, .data⟩ (by simp) rfl
        have l2 : L 2 = true := hC 3 _ rfl l3 ⟨2, .data⟩ (by simp) rfl
        have l1 : L 1 = true := hC 3 _ rfl l3 ⟨1, .data⟩ (by simp) rfl
        have l0 : L 0 = true := hd _ rfl ⟨0, .data⟩ (by simp) rfl
        intro j hj
        match j, hj with
        | 0, _ => exact l0
        | 1, _ => exact l1
        | 2, _ => exact l2
        | 3, _ => exact l3
        | 4, _ => exact l4
        | 5, _ => exact l5
        | 6, _ => exact l6
        | 7, _ => exact l7
        | 8, _ => exact l8
        | 9, _ => exact l9
        | 10, _ => exact l10
        | 11, _ => exact l11
        | 12, _ => exact l12
        | 13, _ => exact l13
      case does =>
        intro iq oq hiq ho
        match iq, hiq with
        | 0, _ => injection ho with ho; subst ho; exact Lt.Does.read rfl (fun Lq aq w' hI hq => Lt.wn0 rfl) (fun Lq aq w' hI hq => Lt.ex_move rfl (hI.fix 7 (Lt.notD rfl)))
        | 1, _ => injection ho with ho; subst ho; exact Lt.Does.read rfl (fun Lq aq w' hI hq => Lt.wn0 rfl) (fun Lq aq w' hI hq => Lt.ex_load rfl (hI.fix 6 (Lt.notD rfl)) (by simp [go_sem]) (by rw [hI.world]; exact c3))
        | 2, _ => injection ho with ho; subst ho; exact Lt.Does.read rfl (fun Lq aq w' hI hq => Lt.wn0 rfl) (fun Lq aq w' hI hq => Lt.ex_move rfl (hI.fix 8 (Lt.notD rfl)))
        | 3, _ => injection ho with ho; subst ho; exact Lt.Does.read rfl (fun Lq aq w' hI hq => Lt.wn0 rfl) (fun Lq aq w' hI hq => Lz.ex_idx0 rfl (hI.pure 1 _ _ rfl (hq ⟨1, .data⟩ (by simp) rfl)) (hI.pure 2 _ _ rfl (hq ⟨2, .data⟩ (by simp) rfl)) hlt Try.underlying26 (by simp [go_sem]))
        | 4, _ => injection ho with ho; subst ho; exact Lt.Does.read rfl (fun Lq aq w' hI hq => Lt.wn0 rfl) (fun Lq aq w' hI hq => Lt.ex_load rfl (hI.pure 3 _ _ rfl (hq ⟨3, .data⟩ (by simp) rfl)) (by simp [go_sem]) (by rw [hI.world]; exact cg))
        | 5, _ => injection ho with ho; subst ho; exact Lt.Does.read rfl (fun Lq aq w' hI hq => Lt.wn0 rfl) (fun Lq aq w' hI hq => Lt.ex_load rfl (hI.fix 2 (Lt.notD rfl)) (by simp [go_sem]) (by rw [hI.world]; exact c0))
        | 6, _ => injection ho with ho; subst ho; exact Lt.Does.read rfl (fun Lq aq w' hI hq => Lt.wn0 rfl) (fun Lq aq w' hI hq => Lt.ex_load rfl (hI.fix 6 (Lt.notD rfl)) (by simp [go_sem]) (by rw [hI.world]; exact c3))
        | 7, _ => injection ho with ho; subst ho; exact Lt.Does.read rfl (fun Lq aq w' hI hq => Lt.wn0 rfl) (fun Lq aq w' hI hq => Lt.ex_move rfl (hI.fix 8 (Lt.notD rfl)))
        | 8, _ => injection ho with ho; subst ho; exact Lt.Does.read rfl (fun Lq aq w' hI hq => Lt.wn0 rfl) (fun Lq aq w' hI hq => Lz.ex_idx0 rfl (hI.pure 6 _ _ rfl (hq ⟨6, .data⟩ (by simp) rfl)) (hI.pure 7 _ _ rfl (hq ⟨7, .data⟩ (by simp) rfl)) hlt Try.underlying26 (by simp [go_sem]))
        | 9, _ => injection ho with ho; subst ho; exact Lt.Does.read rfl (fun Lq aq w' hI hq => Lt.wn0 rfl) (fun Lq aq w' hI hq => Lt.ex_load rfl (hI.pure 8 _ _ rfl (hq ⟨8, .data⟩ (by simp) rfl)) (by simp [go_sem]) (by rw [hI.world]; exact cg))
        | 10, _ => injection ho with ho; subst ho; exact Lt.Does.read rfl (fun Lq aq w' hI hq => Lt.wn0 rfl) (fun Lq aq w' hI hq => Lt.ex_subI rfl (hI.pure 9 _ _ rfl (hq ⟨9, .data⟩ (by simp) rfl)) rfl hWq)
        | 11, _ => injection ho with ho; subst ho; exact Lt.Does.read rfl (fun Lq aq w' hI hq => Lt.wn0 rfl) (fun Lq aq w' hI hq => Lz.ex_idx rfl (hI.pure 5 _ _ rfl (hq ⟨5, .data⟩ (by simp) rfl)) (hI.pure 10 _ _ rfl (hq ⟨10, .data⟩ (by simp) rfl)) hqn Try.underlying25 (by simp [go_sem]))
        | 12, _ => injection ho with ho; subst ho; exact Lt.Does.read rfl (fun Lq aq w' hI hq => Lt.wn0 rfl) (fun Lq aq w' hI hq => Lz.ex_field rfl (hI.pure 11 _ _ rfl (hq ⟨11, .data⟩ (by simp) rfl)) (by simp [go_sem]))
        | 13, _ => injection ho with ho; subst ho; exact Lt.Does.read rfl (fun Lq aq w' hI hq => Lt.wn0 rfl) (fun Lq aq w' hI hq => Lt.ex_load rfl (hI.pure 12 _ _ rfl (hq ⟨12, .data⟩ (by simp) rfl)) (by simp [go_sem]) (by rw [hI.world]; exact c8))
      case last =>
        intro Lq a' oq ho hI hall
        injection ho with ho
        subst ho
        obtain rfl : a' = ⟨#[.slice (some ⟨b, off, none⟩) n cb, .slice fa N fc, .pointer (some ⟨w.heap.size, 0, none⟩), undef, .slice none 0 0, .pointer (some ⟨w.heap.size + 1 + 1, 0, none⟩), .pointer (some ⟨w.heap.size + 1 + 1 + 1, 0, none⟩), .func (.func 28) #[] #[.pointer (some ⟨w.heap.size + 1 + 1 + 1, 0, none⟩), .pointer (some ⟨w.heap.size, 0, none⟩), .pointer (some ⟨w.heap.size + 1 + 1, 0, none⟩)], .int .i64 (k : Int), .slice (some ⟨b, off, none⟩) n cb, .int .i64 (n : Int), .slice (some ⟨w.heap.size + 1, 0, none⟩) n n, .func (.func 28) #[] #[.pointer (some ⟨w.heap.size + 1 + 1 + 1, 0, none⟩), .pointer (some ⟨w.heap.size, 0, none⟩), .pointer (some ⟨w.heap.size + 1 + 1, 0, none⟩)], .func (.func 28) #[] #[.pointer (some ⟨w.heap.size + 1 + 1 + 1, 0, none⟩), .pointer (some ⟨w.heap.size, 0, none⟩), .pointer (some ⟨w.heap.size + 1 + 1, 0, none⟩)], .slice fa N fc, .tuple #[], .int .i64 (k : Int), .slice (some ⟨g, 0, none⟩) sn cp, .int .i64 (sn : Int), .bool true, u20, u21, .func (.func 28) #[] #[.pointer (some ⟨w.heap.size + 1 + 1 + 1, 0, none⟩), .pointer (some ⟨w.heap.size, 0, none⟩), .pointer (some ⟨w.heap.size + 1 + 1, 0, none⟩)], .slice (some ⟨g, 0, none⟩) sn cp, .int .i64 (k : Int), .pointer (some ⟨g, k, none⟩), .int .i64 P, .slice (some ⟨b, off, none⟩) n cb, .slice (some ⟨g, 0, none⟩) sn cp, .int .i64 (k : Int), .pointer (some ⟨g, k, none⟩), .int .i64 P, .int .i64 (q : Int), .pointer (some ⟨b, off + q * 9, none⟩), .pointer (some ⟨b, off + q * 9 + 8, none⟩), .slice ai o.sl.length ci, u36, undef], []⟩ := Lt.act_eq a' [.slice (some ⟨b, off, none⟩) n cb, .slice fa N fc, .pointer (some ⟨w.heap.size, 0, none⟩), undef, .slice none 0 0, .pointer (some ⟨w.heap.size + 1 + 1, 0, none⟩), .pointer (some ⟨w.heap.size + 1 + 1 + 1, 0, none⟩), .func (.func 28) #[] #[.pointer (some ⟨w.heap.size + 1 + 1 + 1, 0, none⟩), .pointer (some ⟨w.heap.size, 0, none⟩), .pointer (some ⟨w.heap.size + 1 + 1, 0, none⟩)], .int .i64 (k : Int), .slice (some ⟨b, off, none⟩) n cb, .int .i64 (n : Int), .slice (some ⟨w.heap.size + 1, 0, none⟩) n n, .func (.func 28) #[] #[.pointer (some ⟨w.heap.size + 1 + 1 + 1, 0, none⟩), .pointer (some ⟨w.heap.size, 0, none⟩), .pointer (some ⟨w.heap.size + 1 + 1, 0, none⟩)], .func (.func 28) #[] #[.pointer (some ⟨w.heap.size + 1 + 1 + 1, 0, none⟩), .pointer (some ⟨w.heap.size, 0, none⟩), .pointer (some ⟨w.heap.size + 1 + 1, 0, none⟩)], .slice fa N fc, .tuple #[], .int .i64 (k : Int), .slice (some ⟨g, 0, none⟩) sn cp, .int .i64 (sn : Int), .bool true, u20, u21, .func (.func 28) #[] #[.pointer (some ⟨w.heap.size + 1 + 1 + 1, 0, none⟩), .pointer (some ⟨w.heap.size, 0, none⟩), .pointer (some ⟨w.heap.size + 1 + 1, 0, none⟩)], .slice (some ⟨g, 0, none⟩) sn cp, .int .i64 (k : Int), .pointer (some ⟨g, k, none⟩), .int .i64 P, .slice (some ⟨b, off, none⟩) n cb, .slice (some ⟨g, 0, none⟩) sn cp, .int .i64 (k : Int), .pointer (some ⟨g, k, none⟩), .int .i64 P, .int .i64 (q : Int), .pointer (some ⟨b, off + q * 9, none⟩), .pointer (some ⟨b, off + q * 9 + 8, none⟩), .slice ai o.sl.length ci, u36, undef] hI.df (by rw [hI.sz]; rfl) (fun k hk => by
          have hk' : k < 38 := hk
          match k, hk' with
          | 0, _ => exact hI.fix 0 (Lt.notD rfl)
          | 1, _ => exact hI.fix 1 (Lt.notD rfl)
          | 2, _ => exact hI.fix 2 (Lt.notD rfl)
          | 3, _ => exact hI.fix 3 (Lt.notD rfl)
          | 4, _ => exact hI.fix 4 (Lt.notD rfl)
          | 5, _ => exact hI.fix 5 (Lt.notD rfl)
          | 6, _ => exact hI.fix 6 (Lt.notD rfl)
          | 7, _ => exact hI.fix 7 (Lt.notD rfl)
          | 8, _ => exact hI.fix 8 (Lt.notD rfl)
          | 9, _ => exact hI.fix 9 (Lt.notD rfl)
          | 10, _ => exact hI.fix 10 (Lt.notD rfl)
          | 11, _ => exact hI.fix 11 (Lt.notD rfl)
          | 12, _ => exact hI.fix 12 (Lt.notD rfl)
          | 13, _ => exact hI.fix 13 (Lt.notD rfl)
          | 14, _ => exact hI.fix 14 (Lt.notD rfl)
          | 15, _ => exact hI.fix 15 (Lt.notD rfl)
          | 16, _ => exact hI.fix 16 (Lt.notD rfl)
          | 17, _ => exact hI.fix 17 (Lt.notD rfl)
          | 18, _ => exact hI.fix 18 (Lt.notD rfl)
          | 19, _ => exact hI.fix 19 (Lt.notD rfl)
          | 20, _ => exact hI.fix 20 (Lt.notD rfl)
          | 21, _ => exact hI.fix 21 (Lt.notD rfl)
          | 22, _ => exact hI.pure 0 22 _ rfl (hall 0 (by decide))
          | 23, _ => exact hI.pure 1 23 _ rfl (hall 1 (by decide))
          | 24, _ => exact hI.pure 2 24 _ rfl (hall 2 (by decide))
          | 25, _ => exact hI.pure 3 25 _ rfl (hall 3 (by decide))
          | 26, _ => exact hI.pure 4 26 _ rfl (hall 4 (by decide))
          | 27, _ => exact hI.pure 5 27 _ rfl (hall 5 (by decide))
          | 28, _ => exact hI.pure 6 28 _ rfl (hall 6 (by decide))
          | 29, _ => exact hI.pure 7 29 _ rfl (hall 7 (by decide))
          | 30, _ => exact hI.pure 8 30 _ rfl (hall 8 (by decide))
          | 31, _ => exact hI.pure 9 31 _ rfl (hall 9 (by decide))
          | 32, _ => exact hI.pure 10 32 _ rfl (hall 10 (by decide))
          | 33, _ => exact hI.pure 11 33 _ rfl (hall 11 (by decide))
          | 34, _ => exact hI.pure 12 34 _ rfl (hall 12 (by decide))
          | 35, _ => exact hI.pure 13 35 _ rfl (hall 13 (by decide))
          | 36, _ => exact hI.fix 36 (Lt.notD rfl)
          | 37, _ => exact hI.fix 37 (Lt.notD rfl)
          | q + 38, hq => exact absurd hq (by omega))
        clear hI hall
        refine Lt.wp_call (f := 28) (args := #[.int .i64 P, .slice ai o.sl.length ci, .pointer (some ⟨w.heap.size + 1 + 1 + 1, 0, none⟩), .pointer (some ⟨w.heap.size, 0, none⟩), .pointer (some ⟨w.heap.size + 1 + 1, 0, none⟩)]) (by simp [execOp, resolve, invoke, go_sem, Act.eval]) (WK.out.mono ?_)
        rintro e w6 ⟨rfl, ho⟩
        refine ⟨_, rfl, ?_⟩
        have HO3 := hide ho
        clear ho
        go_frame
        go_wp2_with fail
        go_roundw
        case rel =>
          refine ⟨_, _, _, _, _, _, _, _, _, _, _, _, _, _, _, _, _, _, _, _, _, _, ?_, rfl⟩
          exact ⟨k + 1, _, by omega, by go_num, GS.out, HO3.out⟩
        case measure => simp [intOf]; omega
    · have hkn : ¬ (k : Int) < (sn : Int) := by omega
      have hke : k = sn := by have := HG.out.le; omega
      have c2 : wr.cell? ⟨w.heap.size + 1 + 1, 0, none⟩ = some (.slice (some ⟨w.heap.size + 1, 0, none⟩) n n) := by rw [← Hn.out]; exact M.ba.cell (i := 0) (by decide)
      clear M HBw hsn
      go_wp2_with fail
      go_ret
      rw [← Hn.out]
      exact ⟨s, _, rfl, Nat.le_succ _, by rw [HSn.out, ← hke]; exact HG.out, HM.out.bA, HBW.out⟩
end Gr
end Go.Proofs.Ytlbcjolbgeficaa
