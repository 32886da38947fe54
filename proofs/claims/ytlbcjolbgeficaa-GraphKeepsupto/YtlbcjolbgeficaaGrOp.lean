/-
  Graph: the arguments opened: words, numbers, truths, objects, a view; what they weigh, and how many values they hold.
-/
import Derived.Test.YtlbcjolbgeficaaLift
import Derived.Test.YtlbcjolbgeficaaGrF
import Derived.SizedLaws
import Derived.Deep.Slices
import Derived.Deep.Grids
import Derived.Laws.IdiomArrays
namespace Go.Proofs.Ytlbcjolbgeficaa
open Go.ChangeShapes Go.WideShapes Go.ChangeAt Go.RowKit Go.Deep
set_option linter.unusedVariables false
set_option linter.unusedSimpArgs false
set_option maxRecDepth 100000
namespace Gr
theorem nc_u : Try.prog.cellsOf 22 = 1 := by kernel_rfl
theorem nc_i : Try.prog.cellsOf 3 = 1 := by kernel_rfl
theorem nc_b : Try.prog.cellsOf 4 = 1 := by kernel_rfl
theorem nc_su : Try.prog.cellsOf 23 = 1 := by kernel_rfl
theorem nc_ssu : Try.prog.cellsOf 24 = 1 := by kernel_rfl
theorem nc_so : Try.prog.cellsOf 25 = 1 := by kernel_rfl
theorem nc_si : Try.prog.cellsOf 26 = 1 := by kernel_rfl
theorem nc_a4 : Try.prog.cellsOf 27 = 4 := by kernel_rfl
theorem nc_o : Try.prog.cellsOf 41 = 9 := by kernel_rfl
theorem nc_v : Try.prog.cellsOf 29 = 14 := by kernel_rfl
theorem by_u : Try.prog.bytesOf 22 = 8 := by kernel_rfl
theorem by_i : Try.prog.bytesOf 3 = 8 := by kernel_rfl
theorem by_b : Try.prog.bytesOf 4 = 1 := by kernel_rfl
theorem by_su : Try.prog.bytesOf 23 = 24 := by kernel_rfl
theorem by_o : Try.prog.bytesOf 41 = 64 := by kernel_rfl

section
variable {H : Type}
theorem bk_one (d : DataW H) : 1 ≤ Rows.uptoBulk d := by
  cases d with
  | lit l => cases l <;> simp [Rows.uptoBulk]
  | _ => simp [Rows.uptoBulk]
theorem bk_part {d : DataW H} : ∀ {l : List (DataW H)}, d ∈ l → Rows.uptoBulk d ≤ Rows.uptoBulkAll l
  | x :: r, h => by
    simp only [Rows.uptoBulkAll]
    rcases List.mem_cons.1 h with e | e
    · subst e; omega
    · have := bk_part e; omega
theorem bk_len : ∀ (l : List (DataW H)), l.length ≤ Rows.uptoBulkAll l
  | [] => by simp [Rows.uptoBulkAll]
  | x :: r => by have := bk_one x; have := bk_len r; simp only [Rows.uptoBulkAll, List.length_cons]; omega
theorem bk_sum {L : Nat → List Int} {D : Nat → DataW H} : ∀ (xs : List Nat), (∀ i ∈ xs, (L i).length ≤ Rows.uptoBulk (D i)) → ((xs.map L).flatten).length ≤ Rows.uptoBulkAll (xs.map D)
  | [], _ => by simp [Rows.uptoBulkAll]
  | x :: r, h => by
    have h1 := h x (by simp)
    have h2 := bk_sum r (fun i hi => h i (by simp [hi]))
    simp only [List.map_cons, List.flatten_cons, List.length_append, Rows.uptoBulkAll]
    omega
theorem we_all {e : TypeId} : ∀ {l : List (DataW H)} {d : DataW H}, d ∈ l → ∀ q ∈ d.weights Try.prog e, q ∈ DataW.weightsAll Try.prog e l
  | _ :: _, _, .head _, q, hq => by rw [DataW.weightsAll]; exact List.mem_append_left _ hq
  | _ :: _, _, .tail _ h, q, hq => by rw [DataW.weightsAll]; exact List.mem_append_right _ (we_all h q hq)
theorem we_slice {t e : TypeId} (ht : Try.prog.underlying t = some (.slice e)) (a b : List (DataW H)) : (DataW.slice a b).weights Try.prog t = (a.length + b.length) * Try.prog.bytesOf e :: (DataW.weightsAll Try.prog e a ++ DataW.weightsAll Try.prog e b) := by
  simp [DataW.weights, ht]
end

section
variable {H : Type} {enc : TypeId × Value → H} {W : World} {fuel : Nat} {cs : List Value} {x : DataW H × List MemPlace}
theorem tr_words (h : DataW.trod enc Try.prog W 0 (fun _ => true) true fuel 23 cs = some x) : ∃ (ao : Option Addr) (l : List Int) (cap : Nat), cs = [.slice ao l.length cap] ∧ SeesU W ao l ∧ Wd l ∧ (∀ B, (∀ q ∈ x.1.weights Try.prog 23, q ≤ B) → l.length * 8 ≤ B) ∧ l.length + 1 ≤ Rows.uptoBulk x.1 := by
  have lt8 : ∀ y ∈ x.2, y.block < W.heap.size := DataW.trod_lt fuel _ _ _ h
  rcases open_ints Try.underlying23 Try.underlying22 nc_u h with ⟨hcs, hx⟩ | ⟨a, len, cap, zs, hcs, _, hlc, hm, hz, hx, hcell, hwz⟩
  · subst hcs hx
    exact ⟨none, [], 0, rfl, fun j c hj => by simp at hj, fun u hu => by simp at hu, fun B _ => by simp, by simp [Rows.uptoBulk]⟩
  · simp at hz
    subst hcs hx
    have hl : (zs.take len).length = len := by simp; omega
    refine ⟨some a, zs.take len, cap, by rw [hl], fun j c hj => ?_, fun u hu => ?_, fun B hB => ?_, ?_⟩
    · have hj' : j < len := by have := (List.getElem?_eq_some_iff.1 hj).1; omega
      obtain ⟨b, off, rfl, hc⟩ := ints_at hcell (by omega)
      refine ⟨b, off, rfl, ?_, ?_⟩
      · exact lt8 (MemPlace.cell b off) (by simp only [MemPlace.row]; exact List.mem_map.2 ⟨0, List.mem_range.2 (by omega), rfl⟩)
      · rw [hc j (by omega)]
        rw [List.getElem?_take, if_pos hj'] at hj
        simp [List.getD, hj]
    · have := bounds_u64 (hwz u (List.mem_of_mem_take hu))
      omega
    · rw [hl]
      have := hB ((len + (zs.length - len)) * Try.prog.bytesOf 22) (by rw [we_slice Try.underlying23]; simp [lits, show min len zs.length = len by omega])
      rw [by_u] at this
      have h2 : len * 8 ≤ (len + (zs.length - len)) * 8 := Nat.mul_le_mul_right _ (by omega)
      omega
    · rw [hl]
      simp only [Rows.uptoBulk]
      have := bk_len (lits (H := H) .u64 (zs.take len))
      simp only [lits, List.length_map, hl] at this
      have e : (lits (H := H) .u64 (zs.take len)) = (zs.take len).map fun n => DataW.lit (.int .u64 n) := rfl
      rw [e]
      omega
theorem tr_nums (h : DataW.trod enc Try.prog W 0 (fun _ => true) true fuel 26 cs = some x) : ∃ (ao : Option Addr) (l : List Int) (cap : Nat), cs = [.slice ao l.length cap] ∧ SeesN W ao l ∧ (∀ B, (∀ q ∈ x.1.weights Try.prog 26, q ≤ B) → l.length * 8 ≤ B) ∧ l.length + 1 ≤ Rows.uptoBulk x.1 := by
  have lt8 : ∀ y ∈ x.2, y.block < W.heap.size := DataW.trod_lt fuel _ _ _ h
  rcases open_ints Try.underlying26 Try.underlying3 nc_i h with ⟨hcs, hx⟩ | ⟨a, len, cap, zs, hcs, _, hlc, hm, hz, hx, hcell, hwz⟩
  · subst hcs hx
    exact ⟨none, [], 0, rfl, fun j c hj => by simp at hj, fun B _ => by simp, by simp [Rows.uptoBulk]⟩
  · simp at hz
    subst hcs hx
    have hl : (zs.take len).length = len := by simp; omega
    refine ⟨some a, zs.take len, cap, by rw [hl], fun j c hj => ?_, fun B hB => ?_, ?_⟩
    · have hj' : j < len := by have := (List.getElem?_eq_some_iff.1 hj).1; omega
      obtain ⟨b, off, rfl, hc⟩ := ints_at hcell (by omega)
      refine ⟨b, off, rfl, ?_, ?_⟩
      · exact lt8 (MemPlace.cell b off) (by simp only [MemPlace.row]; exact List.mem_map.2 ⟨0, List.mem_range.2 (by omega), rfl⟩)
      · rw [hc j (by omega)]
        rw [List.getElem?_take, if_pos hj'] at hj
        simp [List.getD, hj]
    · rw [hl]
      have := hB ((len + (zs.length - len)) * Try.prog.bytesOf 3) (by rw [we_slice Try.underlying26]; simp [lits, show min len zs.length = len by omega])
      rw [by_i] at this
      have h2 : len * 8 ≤ (len + (zs.length - len)) * 8 := Nat.mul_le_mul_right _ (by omega)
      omega
    · rw [hl]
      simp only [Rows.uptoBulk]
      have := bk_len (lits (H := H) .i64 (zs.take len))
      simp only [lits, List.length_map, hl] at this
      have e : (lits (H := H) .i64 (zs.take len)) = (zs.take len).map fun n => DataW.lit (.int .i64 n) := rfl
      rw [e]
      omega
theorem list9 {α : Type} {l : List α} (h : l.length = 9) : ∃ a b c d e f g i j, l = [a, b, c, d, e, f, g, i, j] := by
  match l, h with
  | [a, b, c, d, e, f, g, i, j], _ => exact ⟨a, b, c, d, e, f, g, i, j, rfl⟩
theorem list11 {α : Type} {l : List α} (h : l.length = 11) : ∃ a b c d e f g i j k m, l = [a, b, c, d, e, f, g, i, j, k, m] := by
  match l, h with
  | [a, b, c, d, e, f, g, i, j, k, m], _ => exact ⟨a, b, c, d, e, f, g, i, j, k, m, rfl⟩
theorem list14 {α : Type} {l : List α} (h : l.length = 14) : ∃ a b c d e f g i j k m n o p, l = [a, b, c, d, e, f, g, i, j, k, m, n, o, p] := by
  match l, h with
  | [a, b, c, d, e, f, g, i, j, k, m, n, o, p], _ => exact ⟨a, b, c, d, e, f, g, i, j, k, m, n, o, p, rfl⟩
set_option maxRecDepth 4000 in
theorem tr_obj (hl : cs.length = 9) (h : DataW.trod enc Try.prog W 0 (fun _ => true) true fuel 41 cs = some x) : ∃ (o : Ob) (ai : Option Addr) (ci : Nat), cs = o.cells (.slice ai o.sl.length ci) ∧ SeesU W ai o.sl ∧ Wd o.sl ∧ (0 ≤ o.ge ∧ o.ge < 18446744073709551616) ∧ (∀ B, (∀ q ∈ x.1.weights Try.prog 41, q ≤ B) → o.sl.length * 8 ≤ B) ∧ o.sl.length + 1 ≤ Rows.uptoBulk x.1 := by
  obtain ⟨c0, c1, c2, c3, c4, c5, c6, c7, c8, rfl⟩ := list9 hl
  obtain ⟨xs, m, _, hx, _, hl, hel⟩ := DataW.trod_struct Try.underlying41 h
  obtain ⟨y0, y1, y2, y3, y4, y5, y6, y7, y8, rfl⟩ := list9 hl
  have q0 := hel 0 _ rfl
  have q1 := hel 1 _ rfl
  have q2 := hel 2 _ rfl
  have q3 := hel 3 _ rfl
  have q4 := hel 4 _ rfl
  have q5 := hel 5 _ rfl
  have q6 := hel 6 _ rfl
  have q7 := hel 7 _ rfl
  have q8 := hel 8 _ rfl
  simp [nc_b, nc_i, nc_u, nc_su, Value.cells] at q0 q1 q2 q3 q4 q5 q6 q7 q8
  obtain ⟨us, e0, _⟩ := DataW.trod_bool Try.underlying4 q0
  obtain ⟨li, e1, _⟩ := DataW.trod_bool Try.underlying4 q1
  obtain ⟨fi, e2, _⟩ := DataW.trod_bool Try.underlying4 q2
  obtain ⟨ta, e3, _⟩ := DataW.trod_bool Try.underlying4 q3
  obtain ⟨ag, e4, _, b4⟩ := DataW.trod_int Try.underlying3 q4
  obtain ⟨ge, e5, _, b5⟩ := DataW.trod_int Try.underlying22 q5
  obtain ⟨lk, e6, _, b6⟩ := DataW.trod_int Try.underlying22 q6
  obtain ⟨nx, e7, _, b7⟩ := DataW.trod_int Try.underlying22 q7
  simp at e0 e1 e2 e3 e4 e5 e6 e7
  subst e0 e1 e2 e3 e4 e5 e6 e7
  obtain ⟨ao, l, cap, e8, hs, hw, hwt, hbk⟩ := tr_words q8
  simp at e8
  subst e8
  have h5 := bounds_u64 b5
  refine ⟨⟨us, li, fi, ta, ag, ge, lk, nx, l⟩, ao, cap, rfl, hs, hw, by simp only; omega, fun B hB => hwt B (fun q hq => hB q ?_), ?_⟩
  · rw [hx]
    simp only [List.map_cons, List.map_nil, DataW.weights, Try.underlying41, DataW.weightsEach]
    simp [hq]
  · rw [hx]
    simp only [Rows.uptoBulk, List.map_cons, List.map_nil, Rows.uptoBulkAll]
    omega
theorem tr_objs (h : DataW.trod enc Try.prog W 0 (fun _ => true) true fuel 25 cs = some x) : ∃ (oa : Option Addr) (os : List Ob) (cb : Nat), cs = [.slice oa os.length cb] ∧ Sob W oa os ∧ (∀ o ∈ os, Wd o.sl ∧ 0 ≤ o.ge ∧ o.ge < 18446744073709551616) ∧ (∀ B, (∀ q ∈ x.1.weights Try.prog 25, q ≤ B) → os.length * 64 ≤ B ∧ ∀ o ∈ os, o.sl.length * 8 ≤ B) ∧ os.length + 1 ≤ Rows.uptoBulk x.1 ∧ ∀ o ∈ os, o.sl.length + 1 ≤ Rows.uptoBulk x.1 := by
  have lt8 : ∀ y ∈ x.2, y.block < W.heap.size := DataW.trod_lt fuel _ _ _ h
  rcases open_slice Try.underlying25 h with ⟨hcs, hx⟩ | ⟨a, len, cap, m, fu, D, Pl, hcs, _, hlc, hm, hmm, hx, hel⟩
  · subst hcs hx
    exact ⟨none, [], 0, rfl, fun j c hj => by simp at hj, by simp, fun B _ => by simp, by simp [Rows.uptoBulk], by simp⟩
  · simp at hmm
    subst hcs hx hmm
    rw [nc_o] at hel lt8
    have each : ∀ i, i < m → ∃ s : Ob × Option Addr × Nat, (∀ j, j < 9 → W.cell? (a.add (i * 9 + j)) = some (s.1.cell (.slice s.2.1 s.1.sl.length s.2.2) j)) ∧ SeesU W s.2.1 s.1.sl ∧ Wd s.1.sl ∧ (0 ≤ s.1.ge ∧ s.1.ge < 18446744073709551616) ∧ (∀ B, (∀ q ∈ (D i).weights Try.prog 41, q ≤ B) → s.1.sl.length * 8 ≤ B) ∧ s.1.sl.length + 1 ≤ Rows.uptoBulk (D i) := by
      intro i hi
      obtain ⟨cs', h1, h2⟩ := hel i hi
      obtain ⟨_, hlen, hcell⟩ := World.cells?_some h1
      obtain ⟨o, ai, ci, rfl, k1, k2, k3, k4, k5⟩ := tr_obj hlen h2
      refine ⟨(o, ai, ci), fun j hj => ?_, k1, k2, k3, k4, k5⟩
      have e := hcell j (by omega)
      rw [add_add] at e
      rw [e]
      exact Ob.cells_get o _ hj
    have : Inhabited (Ob × Option Addr × Nat) := ⟨(⟨false, false, false, false, 0, 0, 0, 0, []⟩, none, 0)⟩
    obtain ⟨q, hq⟩ := choose_lt each
    have hml : ((List.range len).map fun i => (q i).1).length = len := by simp
    refine ⟨some a, (List.range len).map fun i => (q i).1, m, by rw [hml], ?_, ?_, ?_, ?_, ?_⟩
    · intro j o hj
      have hjl : j < len := by have := (List.getElem?_eq_some_iff.1 hj).1; rw [hml] at this; exact this
      simp [hjl] at hj
      subst hj
      obtain ⟨b, off, spot⟩ := a
      have c0 := (hq 0 (by omega)).1 0 (by omega)
      have hspot : spot = none := by simpa [Addr.add] using World.cell?_spot c0
      subst hspot
      obtain ⟨k0, k1, _⟩ := hq j (by omega)
      refine ⟨b, off, (q j).2.1, (q j).2.2, rfl, ?_, fun i hi => ?_, k1⟩
      · exact lt8 (MemPlace.cell b off) (List.mem_append_left _ (by simp only [MemPlace.row]; exact List.mem_map.2 ⟨0, List.mem_range.2 (by omega), rfl⟩))
      · have e := k0 i hi
        rw [Go.WideShapes.add_plain] at e
        rw [Nat.add_assoc]
        exact e
    · intro o ho
      obtain ⟨i, hi, rfl⟩ := List.mem_map.1 ho
      have hi := List.mem_range.1 hi
      obtain ⟨_, _, k2, k3, _⟩ := hq i (by omega)
      exact ⟨k2, k3⟩
    · intro B hB
      rw [hml]
      rw [we_slice Try.underlying25] at hB
      constructor
      · have := hB ((len + (m - len)) * Try.prog.bytesOf 41) (by simp)
        rw [by_o] at this
        have h2 : len * 64 ≤ (len + (m - len)) * 64 := Nat.mul_le_mul_right _ (by omega)
        omega
      · intro o ho
        obtain ⟨i, hi, rfl⟩ := List.mem_map.1 ho
        have hi := List.mem_range.1 hi
        obtain ⟨_, _, _, _, k4, _⟩ := hq i (by omega)
        refine k4 B (fun q hq => hB q ?_)
        refine List.mem_cons_of_mem _ (List.mem_append_left _ (we_all (List.mem_map.2 ⟨i, List.mem_range.2 hi, rfl⟩) q hq))
    · rw [hml]
      simp only [Rows.uptoBulk]
      have := bk_len ((List.range len).map D)
      simp at this
      omega
    · intro o ho
      obtain ⟨i, hi, rfl⟩ := List.mem_map.1 ho
      have hi := List.mem_range.1 hi
      obtain ⟨_, _, _, _, _, k5⟩ := hq i (by omega)
      have := bk_part (l := (List.range len).map D) (List.mem_map.2 ⟨i, List.mem_range.2 hi, rfl⟩)
      simp only [Rows.uptoBulk]
      omega
theorem tr_lists (h : DataW.trod enc Try.prog W 0 (fun _ => true) true fuel 24 cs = some x) : ∃ (ra : Option Addr) (rs : List (List Int)) (cr : Nat), cs = [.slice ra rs.length cr] ∧ Srt W ra rs ∧ (∀ l ∈ rs, Wd l) ∧ rs.length + 1 ≤ Rows.uptoBulk x.1 ∧ rs.flatten.length + 1 ≤ Rows.uptoBulk x.1 ∧ ∀ l ∈ rs, l.length + 1 ≤ Rows.uptoBulk x.1 := by
  have lt8 : ∀ y ∈ x.2, y.block < W.heap.size := DataW.trod_lt fuel _ _ _ h
  rcases open_slice Try.underlying24 h with ⟨hcs, hx⟩ | ⟨a, len, cap, m, fu, D, Pl, hcs, _, hlc, hm, hmm, hx, hel⟩
  · subst hcs hx
    exact ⟨none, [], 0, rfl, fun j c hj => by simp at hj, by simp, by simp [Rows.uptoBulk], by simp [Rows.uptoBulk], by simp⟩
  · simp at hmm
    subst hcs hx hmm
    rw [nc_su] at hel lt8
    have each : ∀ i, i < m → ∃ s : List Int × Option Addr × Nat, W.cell? (a.add i) = some (.slice s.2.1 s.1.length s.2.2) ∧ SeesU W s.2.1 s.1 ∧ Wd s.1 ∧ s.1.length + 1 ≤ Rows.uptoBulk (D i) := by
      intro i hi
      obtain ⟨cs', h1, h2⟩ := hel i hi
      obtain ⟨_, hlen, hcell⟩ := World.cells?_some h1
      obtain ⟨ao, l, cap, rfl, k1, k2, _, k3⟩ := tr_words h2
      refine ⟨(l, ao, cap), ?_, k1, k2, k3⟩
      have e := hcell 0 (by simp)
      rw [add_add] at e
      simpa using e
    have : Inhabited (List Int × Option Addr × Nat) := ⟨([], none, 0)⟩
    obtain ⟨q, hq⟩ := choose_lt each
    have hml : ((List.range len).map fun i => (q i).1).length = len := by simp
    refine ⟨some a, (List.range len).map fun i => (q i).1, m, by rw [hml], ?_, ?_, ?_, ?_, ?_⟩
    · intro j o hj
      have hjl : j < len := by have := (List.getElem?_eq_some_iff.1 hj).1; rw [hml] at this; exact this
      simp [hjl] at hj
      subst hj
      obtain ⟨b, off, spot⟩ := a
      have c0 := (hq 0 (by omega)).1
      have hspot : spot = none := by simpa [Addr.add] using World.cell?_spot c0
      subst hspot
      obtain ⟨k0, k1, _⟩ := hq j (by omega)
      refine ⟨b, off, (q j).2.1, (q j).2.2, rfl, ?_, ?_, k1⟩
      · exact lt8 (MemPlace.cell b off) (List.mem_append_left _ (by simp only [MemPlace.row]; exact List.mem_map.2 ⟨0, List.mem_range.2 (by omega), rfl⟩))
      · rw [Go.WideShapes.add_plain] at k0
        exact k0
    · intro o ho
      obtain ⟨i, hi, rfl⟩ := List.mem_map.1 ho
      have hi := List.mem_range.1 hi
      exact (hq i (by omega)).2.2.1
    · rw [hml]
      simp only [Rows.uptoBulk]
      have := bk_len ((List.range len).map D)
      simp at this
      omega
    · simp only [Rows.uptoBulk]
      have := bk_sum (L := fun i => (q i).1) (D := D) (List.range len) (fun i hi => by have := (hq i (by have := List.mem_range.1 hi; omega)).2.2.2; omega)
      omega
    · intro o ho
      obtain ⟨i, hi, rfl⟩ := List.mem_map.1 ho
      have hi := List.mem_range.1 hi
      obtain ⟨_, _, _, k5⟩ := hq i (by omega)
      have := bk_part (l := (List.range len).map D) (List.mem_map.2 ⟨i, List.mem_range.2 hi, rfl⟩)
      simp only [Rows.uptoBulk]
      omega
theorem tr_bools (h : DataW.trod enc Try.prog W 0 (fun _ => true) true fuel 32 cs = some x) : ∃ (ao : Option Addr) (l : List Bool) (cap : Nat), cs = [.slice ao l.length cap] ∧ SeesB W ao l ∧ l.length ≤ 9223372036854775807 ∧ (∀ B, (∀ q ∈ x.1.weights Try.prog 32, q ≤ B) → l.length ≤ B) := by
  have lt8 : ∀ y ∈ x.2, y.block < W.heap.size := DataW.trod_lt fuel _ _ _ h
  have h0 := h
  rcases open_bools Try.underlying32 Try.underlying4 nc_b h with ⟨hcs, hx⟩ | ⟨a, len, cap, Bf, hcs, _, hlc, hm, hx, hcell⟩
  · subst hcs hx
    exact ⟨none, [], 0, rfl, fun j c hj => by simp at hj, by simp, fun B _ => by simp⟩
  · have hml : ((List.range len).map Bf).length = len := by simp
    have hx2 : x.2 = MemPlace.row a cap := by rw [hx]
    rw [hx2] at lt8
    refine ⟨some a, (List.range len).map Bf, cap, by rw [hml]; exact hcs, ?_, by rw [hml]; unfold maxLen at hm; omega, ?_⟩
    · intro j c hj
      have hjl : j < len := by have := (List.getElem?_eq_some_iff.1 hj).1; rw [hml] at this; exact this
      simp [hjl] at hj
      subst hj
      obtain ⟨b, off, spot⟩ := a
      have c0 := hcell 0 (by omega)
      have hspot : spot = none := by simpa [Addr.add] using World.cell?_spot c0
      subst hspot
      refine ⟨b, off, rfl, ?_, ?_⟩
      · exact lt8 (MemPlace.cell b off) (by simp only [MemPlace.row]; exact List.mem_map.2 ⟨0, List.mem_range.2 (by omega), rfl⟩)
      · have e := hcell j (by omega)
        rw [Go.WideShapes.add_plain] at e
        exact e
    · intro B hB
      rw [hml]
      rcases open_slice Try.underlying32 h0 with ⟨hcs', _⟩ | ⟨a', len', cap', m, fu, D, Pl, hcs', _, hlc', hm', hmm', hx', _⟩
      · rw [hcs] at hcs'; cases hcs'
      · rw [hcs] at hcs'
        cases hcs'
        rw [hx', we_slice Try.underlying32] at hB
        have := hB ((len + (m - len)) * Try.prog.bytesOf 4) (by simp)
        rw [by_b] at this
        omega
set_option maxRecDepth 4000 in
theorem tr_view (hl : cs.length = 14) (h : DataW.trod enc Try.prog W 0 (fun _ => true) true fuel 29 cs = some x) : ∃ (c : Vc) (a : Av), cs = vcl c a ∧ Shows W c a ∧ (∀ l ∈ c.rs, Wd l) ∧ (∀ o ∈ c.os, Wd o.sl ∧ 0 ≤ o.ge ∧ o.ge < 18446744073709551616)
    ∧ (∀ B, (∀ q ∈ x.1.weights Try.prog 29, q ≤ B) → c.os.length * 64 ≤ B ∧ ∀ o ∈ c.os, o.sl.length * 8 ≤ B)
    ∧ c.rs.length ≤ Rows.uptoBulk x.1 ∧ (∀ l ∈ c.rs, l.length ≤ Rows.uptoBulk x.1) ∧ c.rs.flatten.length + c.qu.length ≤ Rows.uptoBulk x.1 ∧ c.qu.length ≤ Rows.uptoBulk x.1 := by
  obtain ⟨c0, c1, c2, c3, c4, c5, c6, c7, c8, c9, c10, c11, c12, c13, rfl⟩ := list14 hl
  obtain ⟨xs, m, _, hx, _, hl, hel⟩ := DataW.trod_struct Try.underlying29 h
  obtain ⟨y0, y1, y2, y3, y4, y5, y6, y7, y8, y9, y10, rfl⟩ := list11 hl
  have q0 := hel 0 _ rfl
  have q1 := hel 1 _ rfl
  have q2 := hel 2 _ rfl
  have q3 := hel 3 _ rfl
  have q4 := hel 4 _ rfl
  have q5 := hel 5 _ rfl
  have q6 := hel 6 _ rfl
  have q7 := hel 7 _ rfl
  have q8 := hel 8 _ rfl
  have q9 := hel 9 _ rfl
  have q10 := hel 10 _ rfl
  simp [nc_i, nc_u, nc_su, nc_ssu, nc_so, nc_si, nc_a4, Value.cells] at q0 q1 q2 q3 q4 q5 q6 q7 q8 q9 q10
  obtain ⟨ph, e0, _, _⟩ := DataW.trod_int Try.underlying3 q0
  obtain ⟨co, e1, _, _⟩ := DataW.trod_int Try.underlying3 q1
  obtain ⟨ro, e2, _, _⟩ := DataW.trod_int Try.underlying22 q2
  obtain ⟨aa, la, ca, e3, _, _, _, _⟩ := tr_words q3
  obtain ⟨ra, rs, cr, e4, h4, w4, g4, g4f, g4l⟩ := tr_lists q4
  obtain ⟨wa, lw, cw, e5, _, _, _, _⟩ := tr_words q5
  obtain ⟨oa, os, cb, e6, h6, w6, t6, _, _⟩ := tr_objs q6
  obtain ⟨fa, lf, cf, e7, _, _, _⟩ := tr_nums q7
  obtain ⟨ga, lg, cg, e8, _, _, _⟩ := tr_nums q8
  obtain ⟨qa, lq, cq, e9, h9, _, g9⟩ := tr_nums q9
  obtain ⟨z0, z1, z2, z3, n', _, p0, p1, p2, p3⟩ := trod_array4 Try.underlying27 nc_u q10
  obtain ⟨k0, f0, _, _⟩ := DataW.trod_int Try.underlying22 p0
  obtain ⟨k1, f1, _, _⟩ := DataW.trod_int Try.underlying22 p1
  obtain ⟨k2, f2, _, _⟩ := DataW.trod_int Try.underlying22 p2
  obtain ⟨k3, f3, _, _⟩ := DataW.trod_int Try.underlying22 p3
  simp at e0 e1 e2 e3 e4 e5 e6 e7 e8 e9 f0 f1 f2 f3
  subst e0 e1 e2 e3 e4 e5 e6 e7 e8 e9 f0 f1 f2 f3
  have hb : Rows.uptoBulk x.1 = Rows.uptoBulkAll [y0.1, y1.1, y2.1, y3.1, y4.1, y5.1, y6.1, y7.1, y8.1, y9.1, y10.1] + 1 := by rw [hx]; simp [Rows.uptoBulk]
  simp only [Rows.uptoBulkAll] at hb
  refine ⟨⟨rs, os, lq⟩, ⟨ph, co, ro, aa, la.length, ca, ra, cr, wa, lw.length, cw, oa, cb, fa, lf.length, cf, ga, lg.length, cg, qa, cq, k0, k1, k2, k3⟩, rfl, ⟨h4, h6, h9⟩, w4, w6, fun B hB => t6 B (fun q hq => hB q ?_), ?_, ?_, ?_, ?_⟩
  · rw [hx]
    simp only [List.map_cons, List.map_nil, DataW.weights, Try.underlying29, DataW.weightsEach]
    simp [hq]
  · simp only; omega
  · intro l hl
    have := g4l l hl
    omega
  · simp only; omega
  · simp only; omega
end
end Gr
end Go.Proofs.Ytlbcjolbgeficaa
