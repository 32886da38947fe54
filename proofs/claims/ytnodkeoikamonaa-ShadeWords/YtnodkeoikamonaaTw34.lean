/-
  Lemmas: VsS, VwA, VwB, VwC, VwD, LtH.
-/
import Derived.Test.YtnodkeoikamonaaTw33
import Derived.Maps.AppendAt
/-
  Shape: Fresh, the package's and the document's.
-/
namespace Go.Proofs.Ytnodkeoikamonaa
open Go.RowKit
set_option linter.unusedVariables false
set_option linter.unusedSimpArgs false
set_option linter.unnecessarySimpa false
set_option maxRecDepth 20000
namespace Shape
def F (x : Sh) : Nat → Nat → Int
  | 0 => putF (fun _ => 0) 1 1
  | m + 1 => putF (F x m) (bO x + m * ow x + 1) ((m : Int) + 2)
theorem F_free {x : Sh} (hx : 8 ≤ bO x) : ∀ m, F x m 1 = 1
  | 0 => by simp [F, putF]
  | m + 1 => by
    unfold F putF
    rw [if_neg (by omega)]
    exact F_free hx m
theorem bO8 (x : Sh) : 8 ≤ bO x := by unfold bO bK bR; omega
theorem ow3 (x : Sh) : 3 ≤ ow x := by unfold ow; omega
theorem at_lt {x : Sh} {i j : Nat} (h : i < j) : i * ow x + 3 ≤ j * ow x := by
  have : (i + 1) * ow x ≤ j * ow x := Nat.mul_le_mul_right _ h
  rw [Nat.add_mul] at this
  have := ow3 x
  omega
theorem F_link {x : Sh} : ∀ m i, F x m (bO x + i * ow x + 1) = if i < m then (i : Int) + 2 else 0
  | 0, i => by
    have := bO8 x
    unfold F putF
    rw [if_neg (by omega), if_neg (by omega)]
  | m + 1, i => by
    unfold F putF
    by_cases e : i = m
    · subst e; rw [if_pos rfl, if_pos (by omega)]
    · rw [if_neg ?_, F_link m i]
      · by_cases h : i < m
        · rw [if_pos h, if_pos (by omega)]
        · rw [if_neg h, if_neg (by omega)]
      · intro h
        rcases Nat.lt_or_gt_of_ne e with l | l
        · have := at_lt (x := x) l; omega
        · have := at_lt (x := x) l; omega
theorem run_make_z {P : Program} (t e : TypeId) (zc : Array Value) (size bytes : Nat) (ht : P.underlying t = some (.slice e)) (hinfo : (P.info? e).map (fun i => (i.zero.map Value.cells, i.size, i.bytes)) = some (some zc, size, bytes))
    (n : Nat) (hbytes : bytes * n ≤ 281474976710656) (h63 : n ≤ 9223372036854775807) (w : World) :
    (Instr.makeSlice t (.int .i64 (n : Int)) (.int .i64 (n : Int))).run P w = .ok (.slice (some ⟨w.heap.size, 0, none⟩) n n) (w.alloc (.cells (madeCells zc (n * size)) e)) := by
  obtain ⟨i, hi, hzz⟩ := Option.map_eq_some_iff.1 hinfo
  simp only [Prod.mk.injEq] at hzz
  obtain ⟨hz, hs, hb⟩ := hzz
  obtain ⟨z, hz, hzc⟩ := Option.map_eq_some_iff.1 hz
  have hbi : (i.bytes : Int) * (n : Int) ≤ 281474976710656 := by
    rw [hb]
    have h : ((bytes * n : Nat) : Int) ≤ 281474976710656 := by omega
    rwa [Int.natCast_mul] at h
  have hr := run_make (P := P) w t e i z ht hi hz .i64 .i64 n n (by omega) (Int.le_refl _) hbi (by omega)
  simpa [hs, hzc] using hr
end Shape
end Go.Proofs.Ytnodkeoikamonaa
/-
  View: copied, the package's and the document's; the parts of a memory.
-/
namespace Go.Proofs.Ytnodkeoikamonaa
open Go.RowKit
set_option linter.unusedVariables false
set_option linter.unusedSimpArgs false
set_option linter.unnecessarySimpa false
set_option maxRecDepth 20000
namespace Vw
open Shape
theorem splice_all {α : Type} (L cs : List α) (h : L.length = cs.length) : splice L 0 cs = cs := by
  simp [splice, ← h]
theorem made_list (n : Nat) : ∃ L : List Value, L.length = n ∧ madeCells #[.int .u64 0] n = L.toArray := ⟨(madeCells #[.int .u64 0] n).toList, by simp [madeCells], by simp⟩
theorem copy_run {W : World} {g : Nat} {L : List Value} {t : TypeId} {ao : Option Addr} {n m c cap : Nat} {f : Nat → Int} (hg : W.heap[g]? = some (.cells L.toArray t (0, 0))) (h : Sees W W.heap.size ao n f) (off : Nat) (hL : off + n ≤ L.length) (hm : n = m) :
    ∃ W', (Builtin.copy_ #[24, 24] 3 #[.slice (some ⟨g, off, none⟩) m c, .slice ao n cap]).run Try.prog W = .ok (goInt n) W' ∧ Hid (W'.heap[g]? = some (.cells (splice L off (wcs n f)).toArray t (0, 0))) ∧ (∀ B, B ≤ g → Below B W W') ∧ ∀ k, ¬ k = g → W'.heap[k]? = W.heap[k]? := by
  subst hm
  by_cases h0 : n = 0
  · subst h0
    refine ⟨W, run_copy_none (P := Try.prog) W 24 24 3 30 (some ⟨g, off, none⟩) ao 0 c 0 cap Try.underlying24 (by kernel_rfl) (by simp), show _ = _ by simpa [splice, wcs] using hg, fun B _ => Below.refl _ _, fun _ _ => rfl⟩
  · obtain ⟨b, o', rfl, hb, hc⟩ := h 0 (by omega)
    have hr := run_copy_row (P := Try.prog) W 24 24 3 30 g off n c ⟨b, o', none⟩ n cap L.toArray t (wcs n f) Try.underlying24 (by kernel_rfl) hg (by rw [wcs_len]; simp) (news_of h _ rfl) (by rw [wcs_len]; simpa using hL) (wcs_one n f)
    rw [wcs_len] at hr
    refine ⟨_, hr, ?_, fun B hB => below_setRow (Below.refl _ _) hB _, fun k hk => setRow_other W g k _ hk⟩
    have := setRow_heap W g L.toArray ((L.take off ++ wcs n f ++ L.drop (off + n)).toArray) t (0, 0) hg
    show _ = _
    simpa [splice, wcs_len] using this
set_option maxHeartbeats 1000000 in
theorem copied_v {w : World} {B : Nat} {ao : Option Addr} {n cap : Nat} {f : Nat → Int} (h : Sees w B ao n f) (hB : B ≤ w.heap.size) (hn : n ≤ 70000) :
    Calls Try.prog 38 #[.slice ao n cap] w fun e w' => ∃ g, e = .returned (.slice (some ⟨g, 0, none⟩) n n) ∧ Hid (w'.ownsRow w.heap.size 30 1 (.slice (some ⟨g, 0, none⟩) n n) n (wcs n f)) ∧ Below w.heap.size w w' := by
  have H := hide h
  clear h
  have hmk := run_make_z (P := Try.prog) 24 30 _ 1 8 Try.underlying24 info46 n (by omega) (by omega)
  simp only [Nat.mul_one] at hmk
  obtain ⟨L, hL, eL⟩ := made_list n
  simp only [eL] at hmk
  obtain ⟨W, hW⟩ : ∃ W, w.alloc (.cells L.toArray 30) = W := ⟨_, rfl⟩
  have hG : W.heap[w.heap.size]? = some (.cells L.toArray 30 (0, 0)) := by rw [← hW]; exact heap_alloc_new w _
  have hBl : Below w.heap.size w W := by rw [← hW]; exact (Below.refl _ w).alloc (Nat.le_refl _) _
  have hS : Sees W W.heap.size ao n f := by
    have := hBl.size
    exact (H.out.below hBl hB).mono (by omega)
  obtain ⟨W2, hcp, HG2, hB2, -⟩ := copy_run (m := n) (c := n) (cap := cap) hG hS 0 (by omega) rfl
  have HB2 := hide (hBl.trans ((hB2 w.heap.size (Nat.le_refl _))))
  have HL := hide hL
  clear hG hS hB2 hL eL hBl
  go_enter Try.func38, Try.ntmps38
  go_wp2
  go_ret
  refine ⟨w.heap.size, rfl, ?_, HB2.out⟩
  refine ⟨by simp [wcs], .inr ⟨w.heap.size, n, (wcs n f).toArray, rfl, Nat.le_refl _, ?_, Nat.le_refl _, by unfold maxLen; omega, by simp [wcs], by rw [Nat.mul_one]; exact List.take_of_length_le (by simp [wcs])⟩⟩
  have := HG2.out
  rw [splice_all L (wcs n f) (by rw [HL.out, wcs_len])] at this
  exact this
theorem mbox (w : World) (o s h r k b off z cap : Nat) (s5 : Int) : ∃ W0, w.alloc (.cells #[.int .i64 (o : Int), .int .i64 (s : Int), .int .i64 (h : Int), .int .i64 (r : Int), .int .i64 (k : Int), .int .i64 s5, .slice (some ⟨b, off, none⟩) z cap] 101) = W0 ∧ Below w.heap.size w W0 ∧ Hid (∀ w' : World, Below W0.heap.size W0 w' → Below w.heap.size w w' ∧ w.heap.size < w'.heap.size ∧ w'.cell? ⟨w.heap.size, 0, none⟩ = some (.int .i64 (o : Int)) ∧ w'.cell? ⟨w.heap.size, 1, none⟩ = some (.int .i64 (s : Int)) ∧ w'.cell? ⟨w.heap.size, 2, none⟩ = some (.int .i64 (h : Int)) ∧ w'.cell? ⟨w.heap.size, 3, none⟩ = some (.int .i64 (r : Int)) ∧ w'.cell? ⟨w.heap.size, 4, none⟩ = some (.int .i64 (k : Int)) ∧ w'.cell? ⟨w.heap.size, 5, none⟩ = some (.int .i64 s5) ∧ w'.cell? ⟨w.heap.size, 6, none⟩ = some (.slice (some ⟨b, off, none⟩) z cap)) := by
  refine ⟨_, rfl, (Below.refl _ w).alloc (Nat.le_refl _) _, fun w' hb => ?_⟩
  have B0 : Below w.heap.size w (w.alloc (.cells #[.int .i64 (o : Int), .int .i64 (s : Int), .int .i64 (h : Int), .int .i64 (r : Int), .int .i64 (k : Int), .int .i64 s5, .slice (some ⟨b, off, none⟩) z cap] 101)) := (Below.refl _ w).alloc (Nat.le_refl _) _
  have R0 : (w.alloc (.cells #[.int .i64 (o : Int), .int .i64 (s : Int), .int .i64 (h : Int), .int .i64 (r : Int), .int .i64 (k : Int), .int .i64 s5, .slice (some ⟨b, off, none⟩) z cap] 101)).rowIs w.heap.size 101 7 (lrow [.int .i64 (o : Int), .int .i64 (s : Int), .int .i64 (h : Int), .int .i64 (r : Int), .int .i64 (k : Int), .int .i64 s5, .slice (some ⟨b, off, none⟩) z cap]) := rowL_alloc w [.int .i64 (o : Int), .int .i64 (s : Int), .int .i64 (h : Int), .int .i64 (r : Int), .int .i64 (k : Int), .int .i64 s5, .slice (some ⟨b, off, none⟩) z cap] _ rfl
  have q := R0.of_block (hb.block w.heap.size R0.lt)
  exact ⟨B0.trans (hb.mono B0.size), q.lt, q.cell (i := 0) (by decide), q.cell (i := 1) (by decide), q.cell (i := 2) (by decide), q.cell (i := 3) (by decide), q.cell (i := 4) (by decide), q.cell (i := 5) (by decide), q.cell (i := 6) (by decide)⟩
theorem slice_run {b off z cap : Nat} (at' n : Nat) (hz : at' + n ≤ cap) : ∃ p, (∀ w, (Instr.slice 24 (.slice (some ⟨b, off, none⟩) z cap) (some (.int .i64 (at' : Int))) (some (.int .i64 ((at' : Int) + (n : Int)))) none).run Try.prog w = .ok (.slice (some p) n (cap - at')) w) ∧ (0 < n → p = ⟨b, off + at', none⟩) := by
  refine ⟨if cap = at' then ⟨b, off, none⟩ else ⟨b, off + at', none⟩, fun w => ?_, fun h => by rw [if_neg (by omega)]⟩
  have hs : (sizeOf (Try.prog.elem 24)).run Try.prog w = .ok 1 w := by kernel_rfl
  rw [run_slice_lh w 24 (some ⟨b, off, none⟩) z cap (by kernel_rfl) .i64 .i64 _ _ (by omega) (by omega) (by omega), hs]
  simp only [Result.andThen, sliced]
  have e1 : ((at' : Int)).toNat = at' := by omega
  have e2 : ((at' : Int) + (n : Int)).toNat = at' + n := by omega
  rw [e1, e2]
  by_cases hc : cap = at'
  · simp [hc]
  · simp [hc]
    rw [Go.WideShapes.add_plain]
set_option maxHeartbeats 1000000 in
theorem part_ok {o s h r k b off z cap : Nat} {s5 : Int} {at' n : Nat} (hz : at' + n ≤ z) (hc : z ≤ cap) (hz2 : z ≤ 600) (w : World) : Calls Try.prog 111 #[.agg #[.int .i64 (o : Int), .int .i64 (s : Int), .int .i64 (h : Int), .int .i64 (r : Int), .int .i64 (k : Int), .int .i64 s5, .slice (some ⟨b, off, none⟩) z cap], .int .i64 (at' : Int), .int .i64 (n : Int)] w fun e w' => (∃ p cp, e = .returned (.slice (some p) n cp) ∧ n ≤ cp ∧ (0 < n → p = ⟨b, off + at', none⟩)) ∧ Below w.heap.size w w' := by
  obtain ⟨W0, hW0, B0, K⟩ := mbox w o s h r k b off z cap s5
  have HB := hide B0
  obtain ⟨-, l0, x0, x1, x2, x3, x4, x5, x6⟩ := K.out W0 (Below.refl _ _)
  clear B0
  obtain ⟨p, hsl, hp⟩ := slice_run (b := b) (off := off) (z := z) at' n (show at' + n ≤ cap by omega)
  have HP := hide hp
  have HC := hide (show n ≤ cap - at' by omega)
  clear hp
  go_enter Try.func111, Try.ntmps111
  go_wp2
  go_ret
  exact ⟨⟨p, _, rfl, HC.out, HP.out⟩, HB.out⟩
end Vw
end Go.Proofs.Ytnodkeoikamonaa
/-
  View: the parts of a memory by its shape: acks, roots, weaks, an object's words.
-/
namespace Go.Proofs.Ytnodkeoikamonaa
open Go.RowKit
set_option linter.unusedVariables false
set_option linter.unusedSimpArgs false
set_option linter.unnecessarySimpa false
set_option maxRecDepth 20000
namespace Vw
open Shape
theorem at_obj {x : Sh} (H : x.Ok) {j : Nat} (hj : j < x.o) : pO x j + ow x ≤ size x ∧ j * ow x + ow x ≤ 448 := by
  have h1 : (j + 1) * ow x ≤ x.o * ow x := Nat.mul_le_mul_right _ hj
  rw [Nat.succ_mul] at h1
  have := sizes H
  unfold pO size
  omega
theorem sc_obj {o s h r k : Nat} {s5 : Int} (H : (⟨o, s, h, r, k⟩ : Sh).Ok) {j : Nat} (hj : j < o) (w : World) : Calls Try.prog 105 #[.agg #[.int .i64 (o : Int), .int .i64 (s : Int), .int .i64 (h : Int), .int .i64 (r : Int), .int .i64 (k : Int), .int .i64 s5], .int .i64 ((j : Int) + 1)] w fun e w' => e = .returned (.tuple #[.int .i64 ((pO ⟨o, s, h, r, k⟩ j : Nat) : Int), .int .i64 0]) ∧ Below w.heap.size w w' := by
  have h1 := (at_obj H hj).2
  have := object_ok (s5 := s5) (a := j + 1) (q := j * (3 + s)) H rfl (by omega) hj (by simp) (show j * (3 + s) ≤ 448 by simp only [ow] at h1; omega) w
  rw [show ((pO ⟨o, s, h, r, k⟩ j : Nat) : Int) = 8 + (h : Int) + ((h * r : Nat) : Int) + (k : Int) + ((j * (3 + s) : Nat) : Int) from by simp only [pO, bO, bK, bR, ow]; omega]
  rw [show ((j : Int) + 1) = ((j + 1 : Nat) : Int) by omega]
  exact this
set_option maxHeartbeats 1000000 in
theorem object_ok {o s h r k b off z cap : Nat} {s5 : Int} (H : (⟨o, s, h, r, k⟩ : Sh).Ok) (hz : size ⟨o, s, h, r, k⟩ = z) (hc : z ≤ cap) {j : Nat} (hj : j < o) (w : World) : Calls Try.prog 84 #[.agg #[.int .i64 (o : Int), .int .i64 (s : Int), .int .i64 (h : Int), .int .i64 (r : Int), .int .i64 (k : Int), .int .i64 s5, .slice (some ⟨b, off, none⟩) z cap], .int .i64 ((j : Int) + 1)] w fun e w' => (∃ p cp, e = .returned (.slice (some p) (3 + s) cp) ∧ 3 + s ≤ cp ∧ (0 < 3 + s → p = ⟨b, off + (pO ⟨o, s, h, r, k⟩ j), none⟩)) ∧ Below w.heap.size w w' := by
  obtain ⟨g1, g2, g3, g4, g5, g6, g7, g8, g9, g10⟩ := bnds H
  obtain ⟨a1, ha1⟩ : ∃ a1, pO ⟨o, s, h, r, k⟩ j = a1 := ⟨_, rfl⟩
  have z600 := (sizes H).2.2.2.2
  have hfit : a1 + (3 + s) ≤ z := by
    rw [← ha1, ← hz]
    have := (at_obj H hj).1
    simp only [ow] at this ⊢
    omega
  have SC := hide (fun w1 => sc_obj (s5 := s5) H hj w1)
  rw [hz] at z600
  rw [ha1] at SC ⊢
  have PO := hide (fun w1 => part_ok (o := o) (s := s) (h := h) (r := r) (k := k) (b := b) (off := off) (z := z) (cap := cap) (s5 := s5) (at' := a1) (n := 3 + s) hfit hc z600 w1)
  clear H hz ha1 g6 g7
  obtain ⟨W0, hW0, B0, K⟩ := mbox w o s h r k b off z cap s5
  have HB := hide B0
  obtain ⟨-, l0, x0, x1, x2, x3, x4, x5, x6⟩ := K.out W0 (Below.refl _ _)
  clear B0
  go_enter Try.func84, Try.ntmps84
  go_wp2_with (first | (go_at_call 105; refine (SC.out _).mono ?_; rintro e w1 ⟨rfl, hb1⟩; have HB1 := hide hb1; clear hb1; obtain ⟨-, m1, y0, y1, y2, y3, y4, y5, y6⟩ := K.out w1 HB1.out) | (go_at_call 111; refine (PO.out _).mono ?_; rintro e w2 ⟨⟨p, cp, rfl, hcp, hp⟩, hb2⟩; have HP := hide hp; clear hp; have HB2 := hide (HB1.out.trans (hb2.mono HB1.out.size)); clear hb2))
  go_ret
  exact ⟨⟨p, cp, rfl, hcp, HP.out⟩, (K.out _ HB2.out).1⟩
end Vw
end Go.Proofs.Ytnodkeoikamonaa
/-
  View: lists as they are seen: Contains, the package's list.
-/
namespace Go.Proofs.Ytnodkeoikamonaa
open Go.RowKit
set_option linter.unusedVariables false
set_option linter.unusedSimpArgs false
set_option linter.unnecessarySimpa false
set_option maxRecDepth 20000
namespace Vw
open Shape
def lenV : Value → Nat
  | .slice _ n _ => n
  | _ => 0
theorem below_grown {B : Nat} {w wr w1 : World} {v : Value} {e : TypeId} {size n : Nat} {xs : List Value} (HB : Below B w wr) (HO : wr.ownsRow B e size v n xs) (G : wr.grownBy w1 v.ownBlock) (hB : B ≤ wr.heap.size) : Below B w w1 := by
  refine ⟨G.os.trans HB.os, G.tape.trans HB.tape, G.output.trans HB.output, Nat.le_trans HB.size G.size, fun k hk => ?_⟩
  refine (G.block k (by omega) (fun e => ?_)).trans (HB.block k hk)
  have := (HO.lt k e.symm).1
  omega
end Vw
end Go.Proofs.Ytnodkeoikamonaa
/-
  View: the package's three lists, an object as it is seen, a memory of a shape and words.
-/
namespace Go.Proofs.Ytnodkeoikamonaa
open Go.RowKit
set_option linter.unusedVariables false
set_option linter.unusedSimpArgs false
set_option linter.unnecessarySimpa false
set_option maxRecDepth 20000
namespace Vw
open Shape
theorem owns_set {w : World} {base : Nat} {e : TypeId} {size : Nat} {v : Value} {n : Nat} {xs : List Value} (h : w.ownsRow base e size v n xs) {a : Addr} (ha : a.block < base) (u : Value) : (w.setCell a u).ownsRow base e size v n xs := owns_keep h (fun b hb hl => Below.heap_setCell _ _ _ _ (by omega))
end Vw
end Go.Proofs.Ytnodkeoikamonaa
/-
  A region that draws its order, by a table of what each operation tells, with several slots whose values the invariant tells.
-/
namespace Go.Proofs.Ytnodkeoikamonaa
open Go.RowKit
set_option linter.unusedVariables false
set_option linter.unusedSimpArgs false
namespace LtH
open Lt hiding In Does region
structure In (ks : List (Nat × Nat)) (vals : Nat → Value) (xs : List Nat) (WI : (Nat → Bool) → (Nat → Value) → World → Prop) (a0 : Act) (L : Nat → Bool) (a : Act) (w : World) : Prop where
  sz : a.tmps.size = a0.tmps.size
  df : a.defers = a0.defers
  fix : ∀ k, ¬ D ks k → xs.contains k = false → a.eval (.tmp k) = a0.eval (.tmp k)
  pure : ∀ i d v, pv ks vals i = some (d, v) → L i = true → a.eval (.tmp d) = v
  world : WI L (fun k => a.eval (.tmp k)) w
inductive Does (P : Program) (Q : Exit → Act → World → Prop) (ks : List (Nat × Nat)) (vals : Nat → Value) (xs : List Nat) (WI : (Nat → Bool) → (Nat → Value) → World → Prop) (a0 : Act) (i : Nat) (o : Oper) : Prop where
  | mk (dst : o.dst = Lt.look ks i) (wp : ∀ L a w (K : Act → World → Prop), In ks vals xs WI a0 L a w → L i = false → (∀ e ∈ o.after, Region.binds .any e = true → L e.on = true) → (∀ w' v, (∀ d, o.dst = some d → v = vals i) → WI (up L i) (fun k => a.eval (.tmp k)) w' → K (a.put o.dst v) w') → o.wp P a w K Q)
  | own (x : Nat) (dst : o.dst = some x) (hx : xs.contains x = true) (no : Lt.look ks i = none) (wp : ∀ L a w (K : Act → World → Prop), In ks vals xs WI a0 L a w → L i = false → (∀ e ∈ o.after, Region.binds .any e = true → L e.on = true) → (∀ w' v, WI (up L i) (fun k => if k = x then v else a.eval (.tmp k)) w' → K (a.put (some x) v) w') → o.wp P a w K Q)
section
variable {P : Program} {Q : Exit → Act → World → Prop} {ks : List (Nat × Nat)} {vals : Nat → Value} {xs : List Nat} {WI : (Nat → Bool) → (Nat → Value) → World → Prop} {a0 : Act} {i : Nat} {o : Oper}
theorem Does.read (hd : o.dst = Lt.look ks i) (hW : ∀ L s w, WI L s w → WI (up L i) s w) (h : ∀ L a w, In ks vals xs WI a0 L a w → (∀ e ∈ o.after, Region.binds .any e = true → L e.on = true) → (execOp a.eval o).run P w = .ok (.value (vals i)) w) : Does P Q ks vals xs WI a0 i o :=
  .mk hd fun L a w K hI _ hdep hk => Lt.wp_value (h L a w hI hdep) (hk w _ (fun _ _ => rfl) (hW L _ w hI.world))
theorem Does.call {x : Nat} {f : FuncId} {args : Array Value} (hd : o.dst = some x) (hx : xs.contains x = true) (hn : Lt.look ks i = none) (h : ∀ L a w, In ks vals xs WI a0 L a w → (∀ e ∈ o.after, Region.binds .any e = true → L e.on = true) → (execOp a.eval o).run P w = .ok (.enter f args) w)
    (hc : ∀ L s w, WI L s w → L i = false → Calls P f args w fun e w' => ∃ v, e = .returned v ∧ WI (up L i) (fun k => if k = x then v else s k) w') : Does P Q ks vals xs WI a0 i o :=
  .own x hd hx hn fun L a w K hI hL hdep hk => Lt.wp_call (h L a w hI hdep) ((hc L _ w hI.world hL).mono (by rintro e w' ⟨v, rfl, hw⟩; exact ⟨_, rfl, by rw [hd]; exact hk _ _ hw⟩))
end
def lay (a : Act) (l : List Nat) (b : Act) : Act := l.foldl (fun b k => b.put (some k) (a.eval (.tmp k))) b
theorem lay_size (a : Act) : ∀ (l : List Nat) (b : Act), (lay a l b).tmps.size = b.tmps.size ∧ (lay a l b).defers = b.defers
  | [], b => ⟨rfl, rfl⟩
  | k :: l, b => by
    have h := lay_size a l (b.put (some k) (a.eval (.tmp k)))
    simp only [lay, List.foldl] at h ⊢
    rw [h.1, h.2, Lt.put_size, Lt.put_defs]
    exact ⟨rfl, rfl⟩
theorem lay_eval (a : Act) : ∀ (l : List Nat) (b : Act) (k : Nat), (∀ x, x ∈ l → x < b.tmps.size) → (lay a l b).eval (.tmp k) = if k ∈ l then a.eval (.tmp k) else b.eval (.tmp k)
  | [], b, k, _ => by simp [lay]
  | x :: l, b, k, h => by
    have hx := h x (by simp)
    have ih := lay_eval a l (b.put (some x) (a.eval (.tmp x))) k (fun y hy => by rw [Lt.put_size]; exact h y (by simp [hy]))
    simp only [lay, List.foldl] at ih ⊢
    rw [ih]
    by_cases hl : k ∈ l
    · simp [hl]
    · simp only [hl, if_false]
      by_cases e : k = x
      · subst e; rw [Lt.put_eval hx]; simp
      · rw [Lt.put_other e]; simp [e, hl]
theorem act_ext {a b : Act} (hs : a.tmps.size = b.tmps.size) (hd : a.defers = b.defers) (h : ∀ k, a.eval (.tmp k) = b.eval (.tmp k)) : a = b := by
  obtain ⟨ta, da⟩ := a
  obtain ⟨tb, db⟩ := b
  simp only at hs hd
  subst hd
  congr 1
  apply Array.ext hs
  intro i h1 h2
  have := h i
  simpa [Act.eval, h1, h2] using this
theorem frame {ks : List (Nat × Nat)} {vals : Nat → Value} {xs : List Nat} {WI : (Nat → Bool) → (Nat → Value) → World → Prop} {a0 a : Act} {L : Nat → Bool} {w : World} (h : In ks vals xs WI a0 L a w) (l : List Nat) (hl : (ks.all fun p => l.contains p.2) = true) (hx : (xs.all fun k => l.contains k) = true) (hs : ∀ x, x ∈ l → x < a0.tmps.size) : a = lay a l a0 := by
  refine act_ext ?_ ?_ ?_
  · rw [(lay_size a l a0).1]; exact h.sz
  · rw [(lay_size a l a0).2]; exact h.df
  · intro k
    rw [lay_eval a l a0 k hs]
    by_cases hk : k ∈ l
    · simp [hk]
    · simp only [hk, if_false]
      refine h.fix k (fun hD => ?_) ?_
      · simp only [D, List.any_eq_true, beq_iff_eq] at hD
        obtain ⟨p, hp, e⟩ := hD
        simp only [List.all_eq_true] at hl
        have := hl p hp
        rw [e] at this
        simp [hk] at this
      · cases hc : xs.contains k with
        | false => rfl
        | true =>
          simp only [List.all_eq_true] at hx
          have := hx k (by simpa using hc)
          simp [hk] at this
end LtH
end Go.Proofs.Ytnodkeoikamonaa
