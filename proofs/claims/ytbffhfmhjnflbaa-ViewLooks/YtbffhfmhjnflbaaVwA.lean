/-
  View: copied, the package's and the document's; the parts of a memory.
-/
import Derived.Test.YtbffhfmhjnflbaaVwM
import Derived.Test.YtbffhfmhjnflbaaVsS
namespace Go.Proofs.Ytbffhfmhjnflbaa
open Go.RowKit
set_option linter.unusedVariables false
set_option linter.unusedSimpArgs false
set_option linter.unnecessarySimpa false
set_option maxRecDepth 20000
namespace Vw
open Shape

theorem splice_all {α : Type} (L cs : List α) (h : L.length = cs.length) : splice L 0 cs = cs := by
  simp [splice, ← h]
theorem made_list (n : Nat) : ∃ L : List Value, L.length = n ∧ madeCells #[.int .u64 0] n = L.toArray := ⟨(madeCells #[.int .u64 0] n).toList, by simp [madeCells], by simp⟩
/-- Words copied over a row of one's own, from its beginning on. -/
theorem copy_run {W : World} {g : Nat} {L : List Value} {t : TypeId} {ao : Option Addr} {n m c cap : Nat} {f : Nat → Int} (hg : W.heap[g]? = some (.cells L.toArray t (0, 0))) (h : Sees W W.heap.size ao n f) (off : Nat) (hL : off + n ≤ L.length) (hm : n = m) :
    ∃ W', (Builtin.copy_ #[24, 24] 3 #[.slice (some ⟨g, off, none⟩) m c, .slice ao n cap]).run Try.prog W = .ok (goInt n) W' ∧ Hid (W'.heap[g]? = some (.cells (splice L off (wcs n f)).toArray t (0, 0))) ∧ (∀ B, B ≤ g → Below B W W') ∧ ∀ k, ¬ k = g → W'.heap[k]? = W.heap[k]? := by
  subst hm
  by_cases h0 : n = 0
  · subst h0
    refine ⟨W, run_copy_none (P := Try.prog) W 24 24 3 27 (some ⟨g, off, none⟩) ao 0 c 0 cap Try.underlying24 (by kernel_rfl) (by simp), show _ = _ by simpa [splice, wcs] using hg, fun B _ => Below.refl _ _, fun _ _ => rfl⟩
  · obtain ⟨b, o', rfl, hb, hc⟩ := h 0 (by omega)
    have hr := run_copy_row (P := Try.prog) W 24 24 3 27 g off n c ⟨b, o', none⟩ n cap L.toArray t (wcs n f) Try.underlying24 (by kernel_rfl) hg (by rw [wcs_len]; simp) (news_of h _ rfl) (by rw [wcs_len]; simpa using hL) (wcs_one n f)
    rw [wcs_len] at hr
    refine ⟨_, hr, ?_, fun B hB => below_setRow (Below.refl _ _) hB _, fun k hk => setRow_other W g k _ hk⟩
    have := setRow_heap W g L.toArray ((L.take off ++ wcs n f ++ L.drop (off + n)).toArray) t (0, 0) hg
    show _ = _
    simpa [splice, wcs_len] using this

set_option maxHeartbeats 1000000 in
theorem copied_v {w : World} {B : Nat} {ao : Option Addr} {n cap : Nat} {f : Nat → Int} (h : Sees w B ao n f) (hB : B ≤ w.heap.size) (hn : n ≤ 70000) :
    Calls Try.prog 37 #[.slice ao n cap] w fun e w' => ∃ g, e = .returned (.slice (some ⟨g, 0, none⟩) n n) ∧ Hid (w'.ownsRow w.heap.size 27 1 (.slice (some ⟨g, 0, none⟩) n n) n (wcs n f)) ∧ Below w.heap.size w w' := by
  have H := hide h
  clear h
  have hmk := run_make_z (P := Try.prog) 24 27 _ 1 8 Try.underlying24 info46 n (by omega) (by omega)
  simp only [Nat.mul_one] at hmk
  obtain ⟨L, hL, eL⟩ := made_list n
  simp only [eL] at hmk
  obtain ⟨W, hW⟩ : ∃ W, w.alloc (.cells L.toArray 27) = W := ⟨_, rfl⟩
  have hG : W.heap[w.heap.size]? = some (.cells L.toArray 27 (0, 0)) := by rw [← hW]; exact heap_alloc_new w _
  have hBl : Below w.heap.size w W := by rw [← hW]; exact (Below.refl _ w).alloc (Nat.le_refl _) _
  have hS : Sees W W.heap.size ao n f := by
    have := hBl.size
    exact (H.out.below hBl hB).mono (by omega)
  obtain ⟨W2, hcp, HG2, hB2, -⟩ := copy_run (m := n) (c := n) (cap := cap) hG hS 0 (by omega) rfl
  have HB2 := hide (hBl.trans ((hB2 w.heap.size (Nat.le_refl _))))
  have HL := hide hL
  clear hG hS hB2 hL eL hBl
  go_enter Try.func37, Try.ntmps37
  go_wp2
  go_ret
  refine ⟨w.heap.size, rfl, ?_, HB2.out⟩
  refine ⟨by simp [wcs], .inr ⟨w.heap.size, n, (wcs n f).toArray, rfl, Nat.le_refl _, ?_, Nat.le_refl _, by unfold maxLen; omega, by simp [wcs], by rw [Nat.mul_one]; exact List.take_of_length_le (by simp [wcs])⟩⟩
  have := HG2.out
  rw [splice_all L (wcs n f) (by rw [HL.out, wcs_len])] at this
  exact this
/-- A memory's value in a box. -/
theorem mbox (w : World) (o s h r k b off z cap : Nat) (s5 : Int) : ∃ W0, w.alloc (.cells #[.int .i64 (o : Int), .int .i64 (s : Int), .int .i64 (h : Int), .int .i64 (r : Int), .int .i64 (k : Int), .int .i64 s5, .slice (some ⟨b, off, none⟩) z cap] 70) = W0 ∧ Below w.heap.size w W0 ∧ Hid (∀ w' : World, Below W0.heap.size W0 w' → Below w.heap.size w w' ∧ w.heap.size < w'.heap.size ∧ w'.cell? ⟨w.heap.size, 0, none⟩ = some (.int .i64 (o : Int)) ∧ w'.cell? ⟨w.heap.size, 1, none⟩ = some (.int .i64 (s : Int)) ∧ w'.cell? ⟨w.heap.size, 2, none⟩ = some (.int .i64 (h : Int)) ∧ w'.cell? ⟨w.heap.size, 3, none⟩ = some (.int .i64 (r : Int)) ∧ w'.cell? ⟨w.heap.size, 4, none⟩ = some (.int .i64 (k : Int)) ∧ w'.cell? ⟨w.heap.size, 5, none⟩ = some (.int .i64 s5) ∧ w'.cell? ⟨w.heap.size, 6, none⟩ = some (.slice (some ⟨b, off, none⟩) z cap)) := by
  refine ⟨_, rfl, (Below.refl _ w).alloc (Nat.le_refl _) _, fun w' hb => ?_⟩
  have B0 : Below w.heap.size w (w.alloc (.cells #[.int .i64 (o : Int), .int .i64 (s : Int), .int .i64 (h : Int), .int .i64 (r : Int), .int .i64 (k : Int), .int .i64 s5, .slice (some ⟨b, off, none⟩) z cap] 70)) := (Below.refl _ w).alloc (Nat.le_refl _) _
  have R0 : (w.alloc (.cells #[.int .i64 (o : Int), .int .i64 (s : Int), .int .i64 (h : Int), .int .i64 (r : Int), .int .i64 (k : Int), .int .i64 s5, .slice (some ⟨b, off, none⟩) z cap] 70)).rowIs w.heap.size 70 7 (lrow [.int .i64 (o : Int), .int .i64 (s : Int), .int .i64 (h : Int), .int .i64 (r : Int), .int .i64 (k : Int), .int .i64 s5, .slice (some ⟨b, off, none⟩) z cap]) := rowL_alloc w [.int .i64 (o : Int), .int .i64 (s : Int), .int .i64 (h : Int), .int .i64 (r : Int), .int .i64 (k : Int), .int .i64 s5, .slice (some ⟨b, off, none⟩) z cap] _ rfl
  have q := R0.of_block (hb.block w.heap.size R0.lt)
  exact ⟨B0.trans (hb.mono B0.size), q.lt, q.cell (i := 0) (by decide), q.cell (i := 1) (by decide), q.cell (i := 2) (by decide), q.cell (i := 3) (by decide), q.cell (i := 4) (by decide), q.cell (i := 5) (by decide), q.cell (i := 6) (by decide)⟩

theorem slice_run {b off z cap : Nat} (at' n : Nat) (hz : at' + n ≤ cap) : ∃ p, (∀ w, (Instr.slice 24 (.slice (some ⟨b, off, none⟩) z cap) (some (.int .i64 (at' : Int))) (some (.int .i64 ((at' : Int) + (n : Int)))) none).run Try.prog w = .ok (.slice (some p) n (cap - at')) w) ∧ (0 < n → p = ⟨b, off + at', none⟩) := by
  refine ⟨if cap = at' then ⟨b, off, none⟩ else ⟨b, off + at', none⟩, fun w => ?_, fun h => by rw [if_neg (by omega)]⟩
  have hs : (sizeOf (Try.prog.elem 24)).run Try.prog w = .ok 1 w := by kernel_rfl
  rw [run_slice_lh w 24 (some ⟨b, off, none⟩) z cap (by kernel_rfl) .i64 .i64 _ _ (by omega) (by omega) (by omega), hs]
  simp only [Result.andThen, sliced]
  have e1 : ((at' : Int)).toNat = at' := by omega
  have e2 : ((at' : Int) + (n : Int)).toNat = at' + n := by omega
  rw [e1, e2]
  by_cases hc : cap = at'
  · simp [hc]
  · simp [hc]
    rw [Go.WideShapes.add_plain]
theorem slice_from {b off z cap : Nat} (at' : Nat) (hz : at' ≤ z) (hc : z ≤ cap) : ∃ p, (∀ w, (Instr.slice 24 (.slice (some ⟨b, off, none⟩) z cap) (some (.int .i64 (at' : Int))) none none).run Try.prog w = .ok (.slice (some p) (z - at') (cap - at')) w) ∧ (0 < z - at' → p = ⟨b, off + at', none⟩) := by
  refine ⟨if cap = at' then ⟨b, off, none⟩ else ⟨b, off + at', none⟩, fun w => ?_, fun h => by rw [if_neg (by omega)]⟩
  have hs : (sizeOf (Try.prog.elem 24)).run Try.prog w = .ok 1 w := by kernel_rfl
  rw [run_slice_l w 24 (some ⟨b, off, none⟩) z cap (by kernel_rfl) .i64 _ (by omega) (by omega), hs]
  simp only [Result.andThen, sliced]
  have e1 : ((at' : Int)).toNat = at' := by omega
  rw [e1]
  by_cases hc : cap = at'
  · simp [hc]
  · simp [hc]
    rw [Go.WideShapes.add_plain]

set_option maxHeartbeats 1000000 in
theorem part_ok {o s h r k b off z cap : Nat} {s5 : Int} {at' n : Nat} (hz : at' + n ≤ z) (hc : z ≤ cap) (hz2 : z ≤ 600) (w : World) : Calls Try.prog 80 #[.agg #[.int .i64 (o : Int), .int .i64 (s : Int), .int .i64 (h : Int), .int .i64 (r : Int), .int .i64 (k : Int), .int .i64 s5, .slice (some ⟨b, off, none⟩) z cap], .int .i64 (at' : Int), .int .i64 (n : Int)] w fun e w' => (∃ p cp, e = .returned (.slice (some p) n cp) ∧ n ≤ cp ∧ (0 < n → p = ⟨b, off + at', none⟩)) ∧ Below w.heap.size w w' := by
  obtain ⟨W0, hW0, B0, K⟩ := mbox w o s h r k b off z cap s5
  have HB := hide B0
  obtain ⟨-, l0, x0, x1, x2, x3, x4, x5, x6⟩ := K.out W0 (Below.refl _ _)
  clear B0
  obtain ⟨p, hsl, hp⟩ := slice_run (b := b) (off := off) (z := z) at' n (show at' + n ≤ cap by omega)
  have HP := hide hp
  have HC := hide (show n ≤ cap - at' by omega)
  clear hp
  go_enter Try.func80, Try.ntmps80
  go_wp2
  go_ret
  exact ⟨⟨p, _, rfl, HC.out, HP.out⟩, HB.out⟩
set_option maxHeartbeats 1000000 in
theorem counts_ok {o s h r k b off z cap : Nat} {s5 : Int} (hz : 8 ≤ z) (hc : z ≤ cap) (w : World) : Calls Try.prog 59 #[.agg #[.int .i64 (o : Int), .int .i64 (s : Int), .int .i64 (h : Int), .int .i64 (r : Int), .int .i64 (k : Int), .int .i64 s5, .slice (some ⟨b, off, none⟩) z cap]] w fun e w' => (∃ p cp, e = .returned (.slice (some p) 4 cp) ∧ 4 ≤ cp ∧ p = ⟨b, off + 4, none⟩) ∧ Below w.heap.size w w' := by
  obtain ⟨W0, hW0, B0, K⟩ := mbox w o s h r k b off z cap s5
  have HB := hide B0
  obtain ⟨-, l0, x0, x1, x2, x3, x4, x5, x6⟩ := K.out W0 (Below.refl _ _)
  clear B0
  obtain ⟨p, hsl, hp⟩ := slice_run (b := b) (off := off) (z := z) 4 4 (show 4 + 4 ≤ cap by omega)
  have HP := hide hp
  have HC := hide (show 4 ≤ cap - 4 by omega)
  clear hp
  simp only [show (((4 : Nat) : Int) + ((4 : Nat) : Int)) = 8 from rfl, show ((4 : Nat) : Int) = 4 from rfl] at hsl
  go_enter Try.func59, Try.ntmps59
  go_wp2
  go_ret
  exact ⟨⟨_, _, rfl, by omega, rfl⟩, HB.out⟩

/-- What a part of the words shows. -/
theorem part_sees {w w' : World} {B b off z at' n : Nat} {p : Addr} {f : Nat → Int} (h : Sees w B (some ⟨b, off, none⟩) z f) (hb : Below w.heap.size w w') (hB : B ≤ w.heap.size) (hz : at' + n ≤ z) (hp : 0 < n → p = ⟨b, off + at', none⟩) : Sees w' w'.heap.size (some p) n (fun i => f (at' + i)) := by
  have hs := hb.size
  have h2 := (h.below hb hB).mono (show B ≤ w'.heap.size by omega)
  intro j hj
  obtain ⟨b1, off1, e, hl, hc⟩ := h2 (at' + j) (by omega)
  cases e
  exact ⟨b, off + at', by rw [hp (by omega)], hl, by rw [show off + at' + j = off + (at' + j) by omega]; exact hc⟩
end Vw
end Go.Proofs.Ytbffhfmhjnflbaa
