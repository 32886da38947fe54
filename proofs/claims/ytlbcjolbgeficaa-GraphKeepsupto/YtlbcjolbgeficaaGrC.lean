/-
  Graph: a walk's memory; the closure walk
-/
import Derived.Test.YtlbcjolbgeficaaGrB
namespace Go.Proofs.Ytlbcjolbgeficaa
open Go.RowKit
set_option linter.unusedVariables false
set_option linter.unusedSimpArgs false
set_option linter.unnecessarySimpa false
set_option maxRecDepth 20000
namespace Gr
/-- A walk's memory: from block B on the box of the objects, the row of who stands ahead, its slice, the line's slice, and the line's row beyond them. -/
structure Wm (w : World) (B : Nat) (oa : Option Addr) (cb : Nat) (os : List Ob) (s : Wk) (lv : Value) : Prop where
  bo : w.rowIs B 25 1 (fun _ => .slice oa os.length cb)
  bA : w.rowIs (B + 1) 3 os.length (fun i => .int .i64 (s.A i))
  ba : w.rowIs (B + 2) 26 1 (fun _ => .slice (some ⟨B + 1, 0, none⟩) os.length os.length)
  bl : w.rowIs (B + 3) 26 1 (fun _ => lv)
  ln : w.ownsRow (B + 4) 3 1 lv s.ln.length (ncs s.ln)
/-- What a walk leaves. -/
def Wo (w0 w : World) (B : Nat) (oa : Option Addr) (cb : Nat) (os : List Ob) (s : Wk) : Prop := ∃ lv, Wm w B oa cb os s lv ∧ Below B w0 w
theorem Wm.on {w w' : World} {B : Nat} {oa : Option Addr} {cb : Nat} {os : List Ob} {s : Wk} {lv : Value} (h : Wm w B oa cb os s lv) (hb : Below w.heap.size w w') : Wm w' B oa cb os s lv :=
  ⟨row_on h.bo hb, row_on h.bA hb, row_on h.ba hb, row_on h.bl hb, owns_on h.ln hb⟩
theorem Wm.drew {w : World} {B : Nat} {oa : Option Addr} {cb : Nat} {os : List Ob} {s : Wk} {lv : Value} (h : Wm w B oa cb os s lv) (m : Nat) : Wm (w.drewN m) B oa cb os s lv := h.on (below_drewN (Below.refl _ _) m)
theorem ownBlock_ge {w : World} {base : Nat} {e : TypeId} {size n : Nat} {v : Value} {xs : List Value} (h : w.ownsRow base e size v n xs) {k : Nat} (hk : k < base) : some k ≠ v.ownBlock := by
  obtain ⟨_, ⟨rfl, _⟩ | ⟨g, cap, cur, rfl, hb, _⟩⟩ := h
  · simp [Value.ownBlock]
  · simp [Value.ownBlock]
    omega
theorem Wm.app {w W6 W7 w2 : World} {B : Nat} {oa : Option Addr} {cb : Nat} {os : List Ob} {s : Wk} {lv v2 : Value} {k : Nat} {ah : Int} (H : Wm w B oa cb os s lv)
    (h6 : w.setCell ⟨B + 1, k, none⟩ (.int .i64 ah) = W6) (h7 : W6.alloc (.cells #[.int .i64 ((k : Int) + 1)] 3) = W7)
    (hown : w2.ownsRow (B + 4) 3 1 v2 (s.ln.length + 1) (ncs s.ln ++ ncs [(k : Int) + 1])) (hg : W7.grownBy w2 lv.ownBlock) :
    Wm (w2.setCell ⟨B + 3, 0, none⟩ v2) B oa cb os ⟨ud s.A k ah, s.ln ++ [(k : Int) + 1]⟩ v2 := by
  have hlt := H.bl.lt
  have hsz7 : W7.heap.size = w.heap.size + 1 := by rw [← h7, ← h6]; simp
  have keep : ∀ b, b < B + 4 → w2.heap[b]? = (w.setCell ⟨B + 1, k, none⟩ (.int .i64 ah)).heap[b]? := fun b hb => by
    rw [hg.block b (by omega) (ownBlock_ge H.ln hb), ← h7, ← h6]
    exact Below.heap_alloc _ _ _ (by simp; omega)
  have keep2 : ∀ b, b < B + 4 → b ≠ B + 1 → w2.heap[b]? = w.heap[b]? := fun b hb hne => by
    rw [keep b hb]
    exact Below.heap_setCell _ _ _ _ (by simpa using hne)
  have r1 := (H.bA.set k (.int .i64 ah)).of_block (keep (B + 1) (by omega))
  have r3 := (H.bl.of_block (keep2 (B + 3) (by omega) (by omega))).set 0 v2
  refine ⟨(H.bo.of_block (keep2 B (by omega) (by omega))).setOther (by simp) _, ?_, (H.ba.of_block (keep2 (B + 2) (by omega) (by omega))).setOther (by simp) _, ?_, ?_⟩
  · refine (r1.setOther (by simp) _).congr (fun i hi => ?_)
    simp only [ud]
    split <;> rfl
  · exact r3.congr (fun i hi => by rw [if_pos (by omega)])
  · have := owns_keep (w' := w2.setCell ⟨B + 3, 0, none⟩ v2) hown (fun b _ hb => Below.heap_setCell _ _ _ _ (by simp only; omega))
    rw [ncs_app]
    simpa using this
theorem Wm.app_below {w0 w W6 W7 w2 : World} {B : Nat} {oa : Option Addr} {cb : Nat} {os : List Ob} {s : Wk} {lv v2 : Value} {k : Nat} {ah : Int} (H : Wm w B oa cb os s lv) (hB : Below B w0 w)
    (h6 : w.setCell ⟨B + 1, k, none⟩ (.int .i64 ah) = W6) (h7 : W6.alloc (.cells #[.int .i64 ((k : Int) + 1)] 3) = W7) (hg : W7.grownBy w2 lv.ownBlock) :
    Below B w0 (w2.setCell ⟨B + 3, 0, none⟩ v2) := by
  have hlt := H.bl.lt
  have hsz7 : W7.heap.size = w.heap.size + 1 := by rw [← h7, ← h6]; simp
  have b6 : Below B w0 W6 := by rw [← h6]; exact hB.setCell (by simp) _
  have b7 : Below B w0 W7 := by rw [← h7]; exact b6.alloc (by rw [← h6]; simp; omega) _
  have b2 : Below B w0 w2 := ⟨hg.os.trans b7.os, hg.tape.trans b7.tape, hg.output.trans b7.output, Nat.le_trans b7.size hg.size, fun j hj => (hg.block j (by omega) (ownBlock_ge H.ln (by omega))).trans (b7.block j hj)⟩
  exact b2.setCell (by simp) _

theorem puts_len {os : List Ob} {ah : Int} {s : Wk} (ha : ah ≠ 0) (hm : Me s) (hn : s.ln.Nodup) (hr : ∀ k ∈ s.ln, 1 ≤ k ∧ k ≤ (os.length : Int)) (l : List Int) : (puts os ah s l).ln.length ≤ os.length := by
  obtain ⟨_, tl, P⟩ := puts_ps (os := os) ha l s hm
  refine len_le _ _ ?_ ?_
  · rw [P.ln, List.nodup_append]
    refine ⟨hn, P.nd, ?_⟩
    intro a ha b hb e
    subst e
    exact (P.new a hb).1 ha
  · intro k hk
    rw [P.ln] at hk
    rcases List.mem_append.1 hk with hk | hk
    · exact hr k hk
    · obtain ⟨_, h1, h, _, _, h3⟩ := P.new k hk
      have := gd_le os h
      omega

set_option maxHeartbeats 4000000 in
theorem walk_ok {w0 w : World} {B : Nat} {oa : Option Addr} {cb : Nat} {os : List Ob} {s : Wk} {lv : Value} {ah : Int} {ha : Option Addr} {hc : Nat} {l : List Int}
    (hS : Sob w0 oa os) (hL : SeesU w0 ha l) (hB0 : w0.heap.size = B) (hBw : Below B w0 w) (hM : Wm w B oa cb os s lv) (hBd : Bd os) (hW : Wd l) (hll : l.length ≤ 35184372088832)
    (ha0 : ah ≠ 0) (hm : Me s) (hn : s.ln.Nodup) (hr : ∀ k ∈ s.ln, 1 ≤ k ∧ k ≤ (os.length : Int)) :
    Calls Try.prog 28 #[.int .i64 ah, .slice ha l.length hc, .pointer (some ⟨B + 3, 0, none⟩), .pointer (some ⟨B, 0, none⟩), .pointer (some ⟨B + 2, 0, none⟩)] w fun x w' => x = .returned (.tuple #[]) ∧ Wo w0 w' B oa cb os (walk os ah s l) := by
  have HS := hide hS
  have HL := hide hL
  have HBd := hide hBd
  have HW := hide hW
  have HM0 := hide hM
  have HBw := hide hBw
  have LEN := hide (puts_len (os := os) ha0 hm hn hr)
  have ME := hide (fun q => (puts_ps (os := os) ha0 (l.take q) s hm).1)
  have PE := hide (puts_ps (os := os) ha0 l s hm).2
  have HNO := hide hBd.no
  have sl0 := hM.ln.1
  obtain ⟨la, cp, rfl⟩ := own_slice hM.ln
  have c3 : w.cell? ⟨B + 3, 0, none⟩ = some (.slice la s.ln.length cp) := hM.bl.cell (i := 0) (by decide)
  obtain ⟨n0, hn0⟩ : ∃ n0, s.ln.length = n0 := ⟨_, rfl⟩
  obtain ⟨N, hN⟩ : ∃ N, l.length = N := ⟨_, rfl⟩
  have hNb : N ≤ 35184372088832 := by omega
  rw [hn0] at c3
  rw [hN]
  have HN := hide hN
  have HN0 := hide hn0
  clear hS hL hBd hW hM hBw hm hn hr sl0 hn0 hN hll
  go_enter Try.func28, Try.ntmps28
  go_wp2_with fail
  clear c3
  go_loopw [15] (fun i wr => ∃ (k : Nat) (lv' : Value), k ≤ N ∧ i = .int .i64 k ∧ Hid (Wm wr B oa cb os (puts os ah s (l.take k)) lv') ∧ Hid (Below B w0 wr)) (fun i _ => N - (intOf i).toNat)
  case atStart => exact ⟨0, _, Nat.zero_le _, rfl, HM0.out, HBw.out⟩
  case round =>
    obtain ⟨k, lv', hk, rfl, HM, HB⟩ := hrel
    by_cases hlt : k < N
    · have hkn : (k : Int) < (N : Int) := by omega
      obtain ⟨u, hu⟩ : ∃ u, l[k]? = some u := ⟨l[k]'(by rw [HN.out]; exact hlt), by simp [HN.out, hlt]⟩
      obtain ⟨b, off, rfl, hbl, hcc0⟩ := HL.out k u hu
      have hcc := (HB.out.cell (p := ⟨b, off + k, none⟩) (by rw [hB0] at hbl; exact hbl)).trans hcc0
      have hw := HW.out u (List.mem_of_getElem? hu)
      have TK := hide (show puts os ah s (l.take (k + 1)) = put os ah (puts os ah s (l.take k)) u by rw [List.take_add_one, hu]; exact puts_snoc _ _ _ _ _)
      have SW := hide (HS.out.below (show Below w0.heap.size w0 wr by rw [hB0]; exact HB.out))
      have OK := hide (object_ok (cb := cb) SW.out HBd.out hw.1 hw.2)
      have c0 : wr.cell? ⟨B, 0, none⟩ = some (.slice oa os.length cb) := HM.out.bo.cell (i := 0) (by decide)
      clear hw hu hcc0
      obtain ⟨t, ht⟩ : ∃ t, puts os ah s (l.take k) = t := ⟨_, rfl⟩
      have TL := hide (show t.ln.length ≤ os.length by rw [← ht]; exact LEN.out _)
      rw [ht] at HM TK
      have HT := hide ht
      clear ht
      obtain ⟨m, hm⟩ : ∃ m, gd os u = m := ⟨_, rfl⟩
      obtain ⟨no, hno⟩ : ∃ no, os.length = no := ⟨_, rfl⟩
      have hml : m ≤ no := by rw [← hm, ← hno]; exact gd_le _ _
      have hnoB : no ≤ 4398046511104 := by rw [← hno]; exact HNO.out
      rw [hm] at OK
      rw [hno] at OK c0
      have HMm := hide hm
      have HNo := hide hno
      clear hm hno
      go_upto_region 5 with (go_at_call 29; refine OK.out.mono ?_; rintro e w5 ⟨rfl, hb5⟩; have HB5 := hide hb5; clear hb5)
      have HM5 := hide (HM.out.on HB5.out)
      have HB6 := hide (HB.out.trans (HB5.out.mono (by have := HM.out.bl.lt; omega)))
      have c2 : w5.cell? ⟨B + 2, 0, none⟩ = some (.slice (some ⟨B + 1, 0, none⟩) no no) := by have := HM5.out.ba.cell (i := 0) (by decide); rw [HNo.out] at this; exact this
      clear c0 OK SW
      by_cases hm0 : m = 0
      · subst hm0
        go_wp2_with fail
        go_roundw
        case rel =>
          refine ⟨k + 1, lv', by omega, by go_num, ?_, HB6.out⟩
          show Wm _ _ _ _ _ _ _
          rw [TK.out]
          have : put os ah t u = t := by unfold put; rw [if_neg (by rw [HMm.out]; simp)]
          rw [this]
          exact HM5.out
        case measure => simp [intOf]; omega
      · obtain ⟨q, rfl⟩ : ∃ q, m = q + 1 := ⟨m - 1, by omega⟩
        have hq : q < no := by omega
        have hq2 : (q : Int) < (no : Int) := by omega
        have cA : w5.cell? ⟨B + 1, q, none⟩ = some (.int .i64 (t.A q)) := HM5.out.bA.cell (by rw [HNo.out]; exact hq)
        have g0 : ((q : Int) + 1 != 0) = true := by simp; omega
        by_cases hA : t.A q = 0
        · have hA2 : (t.A q == 0) = true := by simp [hA]
          obtain ⟨la2, cp2, hlv⟩ := own_slice HM5.out.ln
          subst hlv
          obtain ⟨tn, htn⟩ : ∃ tn, t.ln.length = tn := ⟨_, rfl⟩
          have htn2 : tn ≤ 4398046511104 := by rw [← htn]; exact Nat.le_trans TL.out HNO.out
          obtain ⟨W6, hW6⟩ : ∃ W6, w5.setCell ⟨B + 1, q, none⟩ (.int .i64 ah) = W6 := ⟨_, rfl⟩
          obtain ⟨W7, hW7⟩ : ∃ W7, W6.alloc (.cells #[.int .i64 ((q : Int) + 1)] 3) = W7 := ⟨_, rfl⟩
          have HW6 := hide hW6
          have HW7 := hide hW7
          have hb3 := HM5.out.bl.lt
          have fA : w5.frozen? ⟨B + 1, q, none⟩ = false := HM5.out.bA.frozen q
          have R6 : W6.rowIs (B + 3) 26 1 (fun _ => .slice la2 t.ln.length cp2) := by rw [← hW6]; exact HM5.out.bl.setOther (by simp) _
          have c6 : W6.cell? ⟨B + 3, 0, none⟩ = some (.slice la2 tn cp2) := by rw [← htn]; exact R6.cell (i := 0) (by decide)
          have O7 := hide (show W7.ownsRow (B + 4) 3 1 (.slice la2 tn cp2) tn (ncs t.ln) by
            rw [← htn, ← hW7, ← hW6]
            exact owns_keep HM5.out.ln (fun b hb1 hb2 => (Below.heap_alloc _ _ _ (by simpa using hb1)).trans (Below.heap_setCell _ _ _ _ (by simp only; omega))))
          have sz6 : W6.heap.size = w5.heap.size := by rw [← hW6]; simp
          have sz7 : B + 4 ≤ W7.heap.size := by rw [← hW7]; simp; omega
          have n7 := hide (show W7.cell? ⟨w5.heap.size, 0, none⟩ = some (.int .i64 ((q : Int) + 1)) by rw [← hW7, ← sz6]; exact (rowL_alloc W6 [.int .i64 ((q : Int) + 1)] 3 rfl).cell (i := 0) (by simp))
          have R7 := hide (show W7.rowIs (B + 3) 26 1 (fun _ => .slice la2 t.ln.length cp2) by rw [← hW7]; exact R6.alloc _)
          obtain ⟨iI, hiI, hzI, hsI, hyI⟩ := infoI
          have HTN := hide htn
          have hA3 := hide hA
          clear R6 hb3 hA htn
          go_wp2_with (at_builtin; refine wpList_append_own_at _ rfl (.tmp 37) (.tmp 39) 26 rfl (B + 4) 3 iI (.int .i64 0) 1 8 Try.underlying26 hiI hzI hsI hyI rfl (by decide) (.slice la2 tn cp2) tn (ncs t.ln) rfl O7.out ⟨w5.heap.size, 0, none⟩ 1 1 (ncs [(q : Int) + 1]) rfl rfl (fun j v hj => by rw [Go.WideShapes.add_plain]; have hj1 : j < 1 := (by have := (List.getElem?_eq_some_iff.1 hj).1; simpa [ncs] using this); (obtain rfl : j = 0 := (by omega)); simp [ncs] at hj; rw [← hj]; simpa using n7.out) (ncs_one _) (by unfold maxLen; omega) (by omega) sz7 ?_; intro v2 w2 hown hgr _ _; obtain ⟨la3, cp3, rfl⟩ := own_slice hown; have O2 := hide hown; have HG := hide hgr; have R2 := R7.out.of_block (hgr.block (B + 3) (by omega) (ownBlock_ge O7.out (by omega))); have k3 := R2.cell (i := 0) (by decide); have f3 := R2.frozen 0; clear hown hgr R2)
          go_roundw
          case rel =>
            have O3 : w2.ownsRow (B + 4) 3 1 (.slice la3 (tn + 1) cp3) (t.ln.length + 1) (ncs t.ln ++ ncs [(q : Int) + 1]) := by rw [HTN.out]; exact O2.out
            have HG2 : W7.grownBy w2 (Value.slice la2 t.ln.length cp2).ownBlock := by rw [HTN.out]; exact HG.out
            refine ⟨k + 1, .slice la3 (tn + 1) cp3, by omega, by go_num, ?_, Wm.app_below HM5.out HB6.out HW6.out HW7.out HG2⟩
            show Wm _ _ _ _ _ _ _
            rw [TK.out]
            have : put os ah t u = ⟨ud t.A q ah, t.ln ++ [(q : Int) + 1]⟩ := by unfold put; rw [HMm.out, if_pos (by simp [hA3.out])]; simp
            rw [this]
            exact Wm.app HM5.out HW6.out HW7.out O3 HG2
          case measure => simp [intOf]; omega
        · have hA2 : (t.A q == 0) = false := by simp [hA]
          go_wp2_with fail
          go_roundw
          case rel =>
            refine ⟨k + 1, lv', by omega, by go_num, ?_, HB6.out⟩
            show Wm _ _ _ _ _ _ _
            rw [TK.out]
            have : put os ah t u = t := by unfold put; rw [if_neg (by rw [HMm.out]; simpa using hA)]
            rw [this]
            exact HM5.out
          case measure => simp [intOf]; omega
    · have hkn : ¬ (k : Int) < (N : Int) := by omega
      obtain rfl : k = N := by omega
      obtain ⟨t, ht⟩ : ∃ t, puts os ah s (l.take k) = t := ⟨_, rfl⟩
      have TKa := hide (show puts os ah s l = t by rw [← ht, List.take_of_length_le (by rw [HN.out]; omega)])
      rw [ht] at HM
      clear ht
      obtain ⟨la2, cp2, hlv⟩ := own_slice HM.out.ln
      subst hlv
      obtain ⟨tl, P⟩ := PE.out
      rw [TKa.out] at P
      have HP := hide P
      obtain ⟨tn, htn⟩ : ∃ tn, t.ln.length = tn := ⟨_, rfl⟩
      have htn2 : tn ≤ 4398046511104 := by rw [← htn, ← TKa.out]; exact Nat.le_trans (LEN.out _) HNO.out
      have hle : n0 ≤ tn := by rw [← htn, P.ln, ← HN0.out]; simp
      have c6 : wr.cell? ⟨B + 3, 0, none⟩ = some (.slice la2 tn cp2) := by rw [← htn]; exact HM.out.bl.cell (i := 0) (by decide)
      have O7 := hide (show wr.ownsRow (B + 4) 3 1 (.slice la2 tn cp2) tn (ncs t.ln) by rw [← htn]; exact HM.out.ln)
      have HTN := hide htn
      have fin : ∀ w' : World, Hid (w'.ownsRow (B + 4) 3 1 (.slice la2 tn cp2) tn (ncs (srt t.ln n0))) → wr.grownBy w' (Value.slice la2 tn cp2).ownBlock → Wo w0 w' B oa cb os (walk os ah s l) := by
        intro w' ho hg
        have hlt := HM.out.bl.lt
        have keep : ∀ b, b < B + 4 → w'.heap[b]? = wr.heap[b]? := fun b hb => hg.block b (by omega) (ownBlock_ge O7.out hb)
        refine ⟨.slice la2 tn cp2, ?_, ⟨hg.os.trans HB.out.os, hg.tape.trans HB.out.tape, hg.output.trans HB.out.output, Nat.le_trans HB.out.size hg.size, fun j hj => (keep j (by omega)).trans (HB.out.block j hj)⟩⟩
        rw [walk_eq os ah s l HP.out TKa.out, HN0.out]
        refine ⟨HM.out.bo.of_block (keep _ (by omega)), HM.out.bA.of_block (keep _ (by omega)), HM.out.ba.of_block (keep _ (by omega)), ?_, ?_⟩
        · have := HM.out.bl.of_block (keep (B + 3) (by omega))
          rw [HTN.out] at this
          exact this
        · rw [srt_len, HTN.out]
          exact ho.out
      have FIN := hide fin
      clear fin P htn
      have h2 : (n0 : Int) ≤ (tn : Int) := by omega
      rcases O7.out.2 with ⟨e0, h0⟩ | ⟨g, cap', cur, e0, hb, hg, hn', hmx, hs, hta⟩
      · injection e0 with e1 _ e3
        subst e1 e3 h0
        obtain rfl : n0 = 0 := by omega
        have ST := hide (sort_tail (e := 0) (c' := 0) (la' := none) O7.out (Nat.le_refl _) (.inr rfl) (by omega))
        simp only [Nat.sub_self] at ST
        go_wp2_with (go_at_call 30; refine ST.out.mono ?_; rintro e w6 ⟨rfl, ho, hg⟩; have HO := hide ho; have HG := hide hg; clear ho hg)
        all_goals go_end0
        all_goals exact ⟨rfl, FIN.out _ HO.out.out HG.out⟩
      · injection e0 with e1 _ e3
        subst e1 e3
        have hcp : tn ≤ cp2 := hn'
        have hmx2 : cp2 ≤ 9223372036854775807 := hmx
        have hcp2 : (n0 : Int) ≤ (cp2 : Int) := by omega
        clear hb hg hs hta hn' hmx
        have ST := hide (sort_tail (e := n0) (c' := cp2 - n0) (la' := if cp2 = n0 then some ⟨g, 0, none⟩ else some ⟨g, n0, none⟩) O7.out hle (by
          by_cases h : cp2 = n0
          · exact .inr (by omega)
          · rw [if_neg h]
            left
            rw [Option.map_some, Go.WideShapes.add_plain, Nat.zero_add]) (by omega))
        go_wp2_with (go_at_call 30; refine ST.out.mono ?_; rintro e w6 ⟨rfl, ho, hg⟩; have HO := hide ho; have HG := hide hg; clear ho hg)
        all_goals go_end0
        all_goals exact ⟨rfl, FIN.out _ HO.out.out HG.out⟩
end Gr
end Go.Proofs.Ytlbcjolbgeficaa
