/-
  Graph: the line's end sorted
-/
import Derived.Test.YtlbcjolbgeficaaGrA
import Derived.Test.YtlbcjolbgeficaaShelf
import Derived.Lib.OwnBridge
namespace Go.Proofs.Ytlbcjolbgeficaa
open Go.RowKit Go.Sort
set_option linter.unusedVariables false
set_option linter.unusedSimpArgs false
set_option linter.unnecessarySimpa false
set_option maxRecDepth 20000
namespace Gr
theorem own_sorted {w : World} {base g n cap q e : Nat} {t : TypeId} {ln ys : List Int} {os : Array Obj} (h : w.ownsRow base t 1 (.slice (some ⟨g, 0, none⟩) n cap) n (ncs ln)) (he : e + ys.length = n) :
    (grow (putRow (Value.int .i64) (Sort.ahead w q) g e ys.toArray) os).ownsRow base t 1 (.slice (some ⟨g, 0, none⟩) n cap) n (ncs (ln.take e ++ ys)) := by
  have hl : ln.length = n := by simpa [ncs] using h.1
  rcases h.2 with ⟨e0, _⟩ | ⟨g', cap', cur, e0, hb, hg, hn, hm, hs, ht⟩
  · cases e0
  · injection e0 with e1 _ e3
    injection e1 with e1
    injection e1 with e1
    subst e1; subst e3
    have hgl : g < w.heap.size := (Array.getElem?_eq_some_iff.1 hg).1
    refine ⟨by simp [ncs]; omega, .inr ⟨g, cap, putCells (Value.int .i64) e ys.toArray cur, rfl, hb, ?_, by omega, hm, by simpa [putCells] using hs, ?_⟩⟩
    · show (_ ++ os)[g]? = _
      rw [Array.getElem?_append_left (by simpa [putRow, mapBlock, Sort.ahead] using hgl)]
      simp [putRow, mapBlock, Sort.ahead, Array.getElem?_modify, hg, onCells]
    · apply List.ext_getElem?
      intro j
      have e1 : (cur.toList.take (n * 1))[j]? = (ncs ln)[j]? := by rw [ht]
      rw [List.getElem?_take, Array.getElem?_toList] at e1
      rw [List.getElem?_take, Array.getElem?_toList]
      by_cases hj : j < n
      · have hjc : j < cur.size := by omega
        simp only [Nat.mul_one, if_pos hj, putCells, Array.getElem?_mapIdx, Array.getElem?_eq_getElem hjc, Option.map_some] at e1 ⊢
        by_cases hje : j < e
        · rw [if_neg (by omega), e1]
          simp only [ncs, List.getElem?_map]
          rw [List.getElem?_append_left (by simp; omega), List.getElem?_take, if_pos hje]
        · rw [if_pos (by simp; omega)]
          simp only [ncs, List.getElem?_map]
          have hte : (ln.take e).length = e := by simp; omega
          rw [List.getElem?_append_right (by omega), hte, List.getElem?_eq_getElem (by omega)]
          simp [getElem!_pos, show j - e < ys.length by omega]
      · simp only [Nat.mul_one, if_neg hj]
        symm
        exact List.getElem?_eq_none (by simp [ncs]; omega)
theorem grownBy_sorted {w : World} {g n e : Nat} {os : Array Obj} (d : Array Int) : w.grownBy (grow (putRow (Value.int .i64) (Sort.ahead w n) g e d) os) (some g) := by
  refine ⟨rfl, rfl, rfl, ?_, fun k hk hr => ?_⟩
  · show _ ≤ (_ ++ os).size
    simp [putRow, mapBlock, Sort.ahead]
  · show (_ ++ os)[k]? = _
    rw [Array.getElem?_append_left (by simpa [putRow, mapBlock, Sort.ahead] using hk)]
    have : g ≠ k := fun e => hr (by rw [e])
    simp [putRow, mapBlock, Sort.ahead, Array.getElem?_modify, this]
/-- The row's end from e on, sorted. -/
def srt (ln : List Int) (e : Nat) : List Int := ln.take e ++ (ln.drop e).mergeSort fun x y => decide (x ≤ y)
theorem srt_len (ln : List Int) (e : Nat) : (srt ln e).length = ln.length := by
  simp [srt, List.length_mergeSort]
  omega
theorem sort_tail {w : World} {base n cap e c' : Nat} {la la' : Option Addr} {ln : List Int} (h : w.ownsRow base 3 1 (.slice la n cap) n (ncs ln)) (he : e ≤ n) (hla : la' = (la.map fun a => a.add e) ∨ n = e) (hn : n < 4611686018427387904) :
    Calls Try.prog 30 #[.slice la' (n - e) c'] w fun x w' => x = .returned (.tuple #[]) ∧ Hid (w'.ownsRow base 3 1 (.slice la n cap) n (ncs (srt ln e))) ∧ w.grownBy w' (Value.slice la n cap).ownBlock := by
  have hl : ln.length = n := by simpa [ncs] using h.1
  have h2 := h
  by_cases hne : n = e
  · have hz : n - e = 0 := by omega
    rw [hz]
    refine (slices_Sort_int_none la' c' w).mono ?_
    rintro x w' ⟨rfl, rfl⟩
    refine ⟨rfl, ?_, grown_refl _ _⟩
    have : srt ln e = ln := by
      unfold srt
      rw [List.drop_of_length_le (by omega), List.take_of_length_le (by omega)]
      simp
    rw [this]
    exact h2
  · rcases h.2 with ⟨e0, h0⟩ | ⟨g, cap', cur, e0, hb, hg, hn', hm, hs, ht⟩
    · exact absurd h0 (by omega)
    · injection e0 with e1 _ e3
      subst e1; subst e3
      rcases hla with rfl | hla
      · have hH := (Lib.holds_of_ownsRow (enc := Value.int .i64) (zs := ln) h (by simp))
        obtain ⟨g', cap2, hv, _, hlt, _, _, _, hH⟩ := hH
        injection hv with hv1 _ _
        injection hv1 with hv1
        injection hv1 with hv1
        subst hv1
        have hdl : (ln.drop e).length = n - e := by simp; omega
        have key := slices_Sort_int g e c' (ln.drop e) w (fun j hj => by
          have hj' : j < n - e := by simpa [hl] using hj
          have := hH (e + j) (by simp; omega)
          refine ⟨?_, by simpa using this.2⟩
          rw [Nat.zero_add] at this
          rw [this.1]
          simp [getElem!_pos, show e + j < ln.length by omega, show j < ln.length - e by omega]) hlt (by omega)
        rw [hdl] at key
        have ea : (some (⟨g, 0, none⟩ : Addr)).map (fun a => a.add e) = some ⟨g, e, none⟩ := by rw [Option.map_some, Go.WideShapes.add_plain, Nat.zero_add]
        rw [ea]
        refine key.mono ?_
        rintro x w' ⟨rfl, q, os, rfl⟩
        refine ⟨rfl, own_sorted h (by simp [List.length_mergeSort]; omega), grownBy_sorted _⟩
      · exact absurd hla hne
theorem walk_eq (os : List Ob) (ah : Int) (s : Wk) (l : List Int) {t : Wk} {tl : List Int} (h : Ps os ah s l t tl) (ht : puts os ah s l = t) : walk os ah s l = ⟨t.A, srt t.ln s.ln.length⟩ := by
  unfold walk srt
  rw [ht, h.ln]
  simp
end Gr
end Go.Proofs.Ytlbcjolbgeficaa
