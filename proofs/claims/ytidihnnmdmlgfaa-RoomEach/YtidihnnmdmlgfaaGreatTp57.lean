/-
  RoomEach: whatever shape, words, hands, schedule and bound are handed in: where the shape is right, the run from Fresh is told, and each Back goes to an object that its hand has made and not given back, each handle told is of an object of the shape, no two handles told are the same, and each object's generations are told from 0 on, without a gap. The law answers true, and the input reads as it did. No condition beyond the row's.
-/
import Derived.Test.YtidihnnmdmlgfaaGreatRows
import Derived.WalkKit
import Derived.ProofKit
import Derived.OpenShut
import Derived.ChangeOld
import Derived.Below
import Derived.JoinedCond
import Derived.Leaving
import Derived.Conc.LeavingOf
import Derived.Test.YtidihnnmdmlgfaaGreatTp07
import Derived.Test.YtidihnnmdmlgfaaGreatTp05
import Derived.SizedLaws
import Derived.Deep.Slices
import Derived.Test.YtidihnnmdmlgfaaGreatTp55
namespace Go.Proofs.YtidihnnmdmlgfaaGreat
set_option maxHeartbeats 8000000
set_option linter.unusedVariables false
set_option linter.unusedSimpArgs false
section
namespace Lift
open Go.ChangeShapes Go.WideShapes Go.ChangeAt Go.RowKit
theorem own : ownKnob Tryz.prog.godebug = none := by kernel_rfl
theorem laidOut : laidOutB Tryz.prog = true := by kernel_rfl
theorem trodAll_below {H : Type} {enc : TypeId × Value → H} {P : Program} (hl : laidOutB P = true) {W W' : World} (hb : Below W.heap.size W W') :
    ∀ (ts : List TypeId) (vs : List Value) (ds : List (DataW H)) (p : List MemPlace), (ts.all fun t => P.readableRec t && decide (t < P.types.size)) = true →
      DataW.TrodAll enc P W 0 (fun _ => true) true ts vs ds p → DataW.TrodAll enc P W' 0 (fun b => decide (b < W.heap.size)) true ts vs ds p := by
  intro ts
  induction ts with
  | nil =>
    intro vs ds p _ h
    obtain ⟨rfl, rfl, rfl⟩ := trodAll_nil h
    exact trodAll_mk0
  | cons t ts ih =>
    intro vs ds p hr h
    obtain ⟨v, vs', d, ds', p1, q1, rfl, rfl, rfl, h1, h2⟩ := trodAll_cons h
    simp only [List.all_cons, Bool.and_eq_true, decide_eq_true_eq] at hr
    have lt : ∀ x ∈ p1, x.block < W.heap.size := by obtain ⟨m, hm⟩ := h1; exact DataW.trod_lt m _ _ _ hm
    exact trodAll_cons_mk (Below.trod hl hr.1.1 hr.1.2 h1 hb lt) (ih vs' ds' q1 hr.2 h2)
structure IsLaw (s : ChangeSpec) (n : Nat) : Prop where
  vars : s.vars = []
  fn : ∀ (H : Type) (ds : List (DataW H)), ds.length = n → s.fn H (ds ++ []) = { results := [.lit (.bool true)], args := ds }
theorem trodAll_length {H : Type} {enc : TypeId × Value → H} {P : Program} {w : World} {base : Nat} {spare : Nat → Bool} {held : Bool} :
    ∀ (ts : List TypeId) (vs : List Value) (ds : List (DataW H)) (p : List MemPlace), DataW.TrodAll enc P w base spare held ts vs ds p → ds.length = ts.length := by
  intro ts
  induction ts with
  | nil => intro vs ds p h; obtain ⟨rfl, rfl, rfl⟩ := trodAll_nil h; rfl
  | cons t ts ih =>
    intro vs ds p h
    obtain ⟨v, vs', d, ds', p1, q1, rfl, rfl, rfl, h1, h2⟩ := trodAll_cons h
    simp [ih vs' ds' q1 h2]
theorem contract {H : Type} (enc : TypeId × Value → H) {f : FuncId} {fn : Func} {s : ChangeSpec} {tb : TypeId} (hs : IsLaw s fn.params.size)
    (hr : (fn.params.toList.all fun t => Tryz.prog.readableRec t && decide (t < Tryz.prog.types.size)) = true) (hres : fn.resultTypes = #[tb]) (htb : Tryz.prog.underlying tb = some .bool)
    (W : World) (args : Array Value) (ds gs : List (DataW H)) (before : List MemPlace)
    (hW : DataW.Whole enc Tryz.prog fn.params.toList s.vars false W args.toList ds gs before)
    (walk : ∀ p, DataW.TrodAll enc Tryz.prog W 0 (fun _ => true) true fn.params.toList args.toList ds p → Calls Tryz.prog f args W fun e W' => e = .returned (.bool true) ∧ Below W.heap.size W W') :
    Calls Tryz.prog f args W fun e W' => ∃ v, e = .returned v ∧ s.post enc Tryz.prog fn false true false false W args v W' := by
  have hW' := hW
  obtain ⟨p, q, hA, hV, rfl, hfz, hnd⟩ := hW
  have hn := trodAll_length _ _ _ _ hA
  rw [hs.vars] at hV
  obtain ⟨rfl, rfl⟩ := trodVars_none hV
  have he := hs.fn H ds (by simpa using hn)
  refine (walk p hA).mono fun e W' ⟨hee, bel⟩ => ?_
  subst hee
  refine ⟨_, rfl, ds, [], _, [], p, [], hW', ?_, ?_, ?_, bel.frame _, fun h => by cases h⟩
  · rw [he, hres]
    exact trodAll_mk1 (shut_bool htb _)
  · rw [he]
    exact trodAll_below laidOut bel _ _ _ _ hr hA
  · rw [he, hs.vars]
    rfl
end Lift
end
section
open Go.ChangeShapes Go.WideShapes Go.ChangeAt Go.RowKit Go.Deep
set_option maxRecDepth 100000
theorem ncells46 : Tryz.prog.cellsOf 38 = 1 := by kernel_rfl
theorem ncells3 : Tryz.prog.cellsOf 3 = 1 := by kernel_rfl
theorem ncells49 : Tryz.prog.cellsOf 43 = 1 := by kernel_rfl
theorem ncells51 : Tryz.prog.cellsOf 42 = 5 := by kernel_rfl
section
variable {H : Type} {enc : TypeId × Value → H} {W : World} {base : Nat} {v : Value} {d : DataW H} {p : List MemPlace}
theorem list5 {α : Type} {l : List α} (h : l.length = 5) : ∃ a b c d e, l = [a, b, c, d, e] := by
  match l, h with
  | [a, b, c, d, e], _ => exact ⟨a, b, c, d, e, rfl⟩
set_option maxRecDepth 4000 in
theorem open_job {n : Nat} {cs : List Value} {x : DataW H × List MemPlace} (hl : cs.length = 5) (h : DataW.trod enc Tryz.prog W 0 (fun _ => true) true n 42 cs = some x) :
    ∃ j : Jb, (∀ q, q < 5 → cs[q]? = some (j.cell q)) ∧ j.wf := by
  obtain ⟨c0, c1, c2, c3, c4, rfl⟩ := list5 hl
  obtain ⟨xs, m, _, hx, _, hl, hel⟩ := DataW.trod_struct Tryz.underlying42 h
  obtain ⟨y0, y1, y2, y3, y4, rfl⟩ := list5 hl
  have q0 := hel 0 _ rfl
  have q1 := hel 1 _ rfl
  have q2 := hel 2 _ rfl
  have q3 := hel 3 _ rfl
  have q4 := hel 4 _ rfl
  simp [ncells3, ncells46, Value.cells] at q0 q1 q2 q3 q4
  obtain ⟨h0, e0, _, b0⟩ := DataW.trod_int Tryz.underlying3 q0
  obtain ⟨h1, e1, _, b1⟩ := DataW.trod_int Tryz.underlying3 q1
  obtain ⟨h2, e2, _, b2⟩ := DataW.trod_int Tryz.underlying3 q2
  obtain ⟨h3, e3, _, b3⟩ := DataW.trod_int Tryz.underlying3 q3
  obtain ⟨h4, e4, _, b4⟩ := DataW.trod_int Tryz.underlying38 q4
  simp at e0 e1 e2 e3 e4
  subst e0 e1 e2 e3 e4
  refine ⟨⟨h0, h1, h2, h3, h4⟩, fun q hq => ?_, bounds_u64 b4⟩
  match q, hq with
  | 0, _ | 1, _ | 2, _ | 3, _ | 4, _ => rfl
instance : Inhabited Jb := ⟨⟨0, 0, 0, 0, 0⟩⟩
theorem open_jobs {fuel : Nat} {cs : List Value} {x : DataW H × List MemPlace} (hl : cs.length = 1) (hf : DataW.trod enc Tryz.prog W 0 (fun _ => true) true fuel 43 cs = some x) :
    ∃ ao n cap, cs = [.slice ao n cap] ∧ ∃ j : Nat → Jb, SeesJ W W.heap.size ao n j ∧ ∀ i, i < n → (j i).wf := by
  have lt8 := DataW.trod_lt fuel _ _ _ hf
  rcases open_slice Tryz.underlying43 hf with ⟨hcs, hx⟩ | ⟨a, len, cap', m, fu, D, Pl, hcs, _, hlc, hm, hmm, hx, hel⟩
  · exact ⟨none, 0, 0, hcs, fun _ => default, fun j hj => absurd hj (Nat.not_lt_zero _), fun i hi => absurd hi (Nat.not_lt_zero _)⟩
  · subst hx
    simp only [ncells51] at hel lt8
    have each : ∀ i, i < m → ∃ s : Jb, (∀ j, j < 5 → W.cell? (a.add (i * 5 + j)) = some (s.cell j)) ∧ s.wf := by
      intro i hi
      obtain ⟨cs', h1, h2⟩ := hel i hi
      obtain ⟨_, hlen, hcell⟩ := World.cells?_some h1
      obtain ⟨s, hs, hwf⟩ := open_job hlen h2
      refine ⟨s, fun j hj => ?_, hwf⟩
      have e := hcell j (by omega)
      rw [add_add] at e
      rw [e]
      exact hs j hj
    obtain ⟨q, hq⟩ := choose_lt each
    simp only [Bool.true_or, if_true] at hmm
    refine ⟨some a, len, cap', hcs, q, fun j hj => ?_, fun i hi => (hq i (by omega)).2⟩
    have hjm : j < m := by omega
    obtain ⟨b, off, spot⟩ := a
    have c0 := (hq 0 (by omega)).1 0 (by omega)
    have hspot : spot = none := by simpa [Addr.add] using World.cell?_spot c0
    subst hspot
    refine ⟨b, off, rfl, ?_, fun i hi => ?_⟩
    · have := lt8 (MemPlace.cell b off) (List.mem_append_left _ (by simp only [MemPlace.row]; exact List.mem_map.2 ⟨0, List.mem_range.2 (by omega), rfl⟩))
      exact this
    · have e := (hq j hjm).1 i hi
      rw [Go.WideShapes.add_plain] at e
      rw [Nat.add_assoc]
      exact e
end
end
section
open Go.ChangeShapes Go.WideShapes Go.ChangeAt Go.RowKit Go.Deep
set_option maxRecDepth 100000
section
variable {H : Type} {enc : TypeId × Value → H} {W : World} {base : Nat} {v : Value} {d : DataW H} {p : List MemPlace} {fuel : Nat} {cs : List Value} {x : DataW H × List MemPlace}
theorem words_t (hf : DataW.trod enc Tryz.prog W 0 (fun _ => true) true fuel 24 cs = some x) :
    ∃ (ao : Option Addr) (n cap : Nat) (f : Nat → Int), cs = [.slice ao n cap] ∧ (ao = none → n = 0 ∧ cap = 0) ∧ n ≤ maxLen ∧ Sees W W.heap.size ao n f ∧ (∀ i, i < n → 0 ≤ f i ∧ f i ≤ 18446744073709551615) := by
  have lt8 := DataW.trod_lt fuel _ _ _ hf
  rcases open_ints Tryz.underlying24 Tryz.underlying38 ncells46 hf with ⟨hcs, hx⟩ | ⟨a, n, cap, zs, hcs, _, hlc, hm, hz, hx, hcell, hwz⟩
  · exact ⟨none, 0, 0, fun _ => 0, hcs, fun _ => ⟨rfl, rfl⟩, Nat.zero_le _, fun j hj => absurd hj (Nat.not_lt_zero _), fun i hi => absurd hi (Nat.not_lt_zero _)⟩
  · simp at hz
    subst hx
    refine ⟨some a, n, cap, fun i => zs.getD i 0, hcs, (fun h => by cases h), by omega, fun j hj => ?_, fun i hi => ?_⟩
    · obtain ⟨b, off, rfl, hc⟩ := ints_at hcell (by omega)
      refine ⟨b, off, rfl, ?_, hc j (by omega)⟩
      have := lt8 (MemPlace.cell b off) (by simp only [MemPlace.row]; exact List.mem_map.2 ⟨0, List.mem_range.2 (by omega), rfl⟩)
      exact this
    · have hi' : i < zs.length := by omega
      have hmem : zs.getD i 0 ∈ zs := by simp [List.getD, hi']
      exact bounds_u64 (hwz _ hmem)
theorem nums_t (hf : DataW.trod enc Tryz.prog W 0 (fun _ => true) true fuel 26 cs = some x) :
    ∃ (ao : Option Addr) (n cap : Nat) (s : Nat → Int), cs = [.slice ao n cap] ∧ n ≤ maxLen ∧ SeesI W W.heap.size ao n s := by
  have lt8 := DataW.trod_lt fuel _ _ _ hf
  rcases open_ints Tryz.underlying26 Tryz.underlying3 ncells3 hf with ⟨hcs, hx⟩ | ⟨a, n, cap, zs, hcs, _, hlc, hm, hz, hx, hcell, hwz⟩
  · exact ⟨none, 0, 0, fun _ => 0, hcs, Nat.zero_le _, fun j hj => absurd hj (Nat.not_lt_zero _)⟩
  · simp at hz
    subst hx
    refine ⟨some a, n, cap, fun i => zs.getD i 0, hcs, by omega, fun j hj => ?_⟩
    obtain ⟨b, off, rfl, hc⟩ := ints_at hcell (by omega)
    refine ⟨b, off, rfl, ?_, hc j (by omega)⟩
    have := lt8 (MemPlace.cell b off) (by simp only [MemPlace.row]; exact List.mem_map.2 ⟨0, List.mem_range.2 (by omega), rfl⟩)
    exact this
theorem hands_t (hf : DataW.trod enc Tryz.prog W 0 (fun _ => true) true fuel 25 cs = some x) :
    ∃ (ao : Option Addr) (n cap : Nat) (jn : Nat → Nat) (jb : Nat → Nat → Jb), cs = [.slice ao n cap] ∧ n ≤ maxLen ∧ SeesH W W.heap.size ao n jn jb ∧ ∀ h, h < n → ∀ j, j < jn h → (jb h j).wf := by
  have lt8 := DataW.trod_lt fuel _ _ _ hf
  rcases open_slice Tryz.underlying25 hf with ⟨hcs, hx⟩ | ⟨a, n, cap, m, fu, D, Pl, hcs, _, hlc, hm, hmm, hx, hel⟩
  · exact ⟨none, 0, 0, fun _ => 0, fun _ _ => default, hcs, Nat.zero_le _, fun j hj => absurd hj (Nat.not_lt_zero _), fun j hj => absurd hj (Nat.not_lt_zero _)⟩
  · simp at hmm
    subst hx
    rw [ncells49] at hel lt8
    have each : ∀ i, i < m → ∃ y : Nat × (Nat → Jb), (∃ ao' c', W.cell? (a.add i) = some (.slice ao' y.1 c') ∧ SeesJ W W.heap.size ao' y.1 y.2) ∧ ∀ k, k < y.1 → (y.2 k).wf := by
      intro i hi
      obtain ⟨cs', h1, h2⟩ := hel i hi
      obtain ⟨_, hlen, hcell⟩ := World.cells?_some h1
      obtain ⟨ao', n', c', rfl, j, hj, hw⟩ := open_jobs hlen h2
      have e := hcell 0 (by simp)
      rw [add_add] at e
      exact ⟨(n', j), ⟨ao', c', by simpa using e, hj⟩, hw⟩
    obtain ⟨q, hq⟩ := choose_lt each
    refine ⟨some a, n, cap, fun i => (q i).1, fun i => (q i).2, hcs, by omega, fun j hj => ?_, fun i hi => (hq i (by omega)).2⟩
    obtain ⟨⟨ao0, c0', e0, _⟩, _⟩ := hq 0 (by omega)
    obtain ⟨⟨ao', c', e, hs⟩, _⟩ := hq j (by omega)
    obtain ⟨b, off, spot⟩ := a
    have hspot : spot = none := by simpa [Addr.add] using World.cell?_spot e0
    subst hspot
    refine ⟨b, off, ao', c', rfl, ?_, ?_, hs⟩
    · have := lt8 (MemPlace.cell b off) (List.mem_append_left _ (by simp only [MemPlace.row]; exact List.mem_map.2 ⟨0, List.mem_range.2 (by omega), rfl⟩))
      exact this
    · rw [Go.WideShapes.add_plain] at e
      exact e
theorem list6 {α : Type} {l : List α} (h : l.length = 6) : ∃ a b c d e f, l = [a, b, c, d, e, f] := by
  match l, h with
  | [a, b, c, d, e, f], _ => exact ⟨a, b, c, d, e, f, rfl⟩
theorem list10 {α : Type} {l : List α} (h : l.length = 10) : ∃ a b c d e f g i j k, l = [a, b, c, d, e, f, g, i, j, k] := by
  match l, h with
  | [a, b, c, d, e, f, g, i, j, k], _ => exact ⟨a, b, c, d, e, f, g, i, j, k, rfl⟩
theorem list5' {α : Type} {l : List α} (h : l.length = 5) : ∃ a b c d e, l = [a, b, c, d, e] := by
  match l, h with
  | [a, b, c, d, e], _ => exact ⟨a, b, c, d, e, rfl⟩
theorem ncellsSh : Tryz.prog.cellsOf 23 = 6 := by kernel_rfl
theorem ncellsW : Tryz.prog.cellsOf 24 = 1 := by kernel_rfl
theorem ncellsH : Tryz.prog.cellsOf 25 = 1 := by kernel_rfl
theorem ncellsI : Tryz.prog.cellsOf 26 = 1 := by kernel_rfl
set_option maxRecDepth 4000 in
theorem shape_t (hl : cs.length = 6) (hf : DataW.trod enc Tryz.prog W 0 (fun _ => true) true fuel 23 cs = some x) :
    ∃ sh : Shp, cs = [.int .i64 sh.a, .int .i64 sh.b, .int .i64 sh.c, .int .i64 sh.d, .int .i64 sh.e, .int .i64 sh.f] := by
  obtain ⟨c0, c1, c2, c3, c4, c5, rfl⟩ := list6 hl
  obtain ⟨xs, m, _, hx, _, hl, hel⟩ := DataW.trod_struct Tryz.underlying23 hf
  obtain ⟨y0, y1, y2, y3, y4, y5, rfl⟩ := list6 hl
  have q0 := hel 0 _ rfl
  have q1 := hel 1 _ rfl
  have q2 := hel 2 _ rfl
  have q3 := hel 3 _ rfl
  have q4 := hel 4 _ rfl
  have q5 := hel 5 _ rfl
  simp [ncells3, Value.cells] at q0 q1 q2 q3 q4 q5
  obtain ⟨h0, e0, _, _⟩ := DataW.trod_int Tryz.underlying3 q0
  obtain ⟨h1, e1, _, _⟩ := DataW.trod_int Tryz.underlying3 q1
  obtain ⟨h2, e2, _, _⟩ := DataW.trod_int Tryz.underlying3 q2
  obtain ⟨h3, e3, _, _⟩ := DataW.trod_int Tryz.underlying3 q3
  obtain ⟨h4, e4, _, _⟩ := DataW.trod_int Tryz.underlying3 q4
  obtain ⟨h5, e5, _, _⟩ := DataW.trod_int Tryz.underlying3 q5
  simp at e0 e1 e2 e3 e4 e5
  subst e0 e1 e2 e3 e4 e5
  exact ⟨⟨h0, h1, h2, h3, h4, h5⟩, rfl⟩
end
end
section
open Go.ChangeShapes Go.WideShapes Go.ChangeAt Go.RowKit Go.Deep
set_option maxRecDepth 100000
namespace L17
section
variable {H : Type} {enc : TypeId × Value → H} {W : World} {fuel : Nat} {cs : List Value} {x : DataW H × List MemPlace} {B : Nat}
theorem mem_all {P : Program} {e : TypeId} : ∀ {l : List (DataW H)} {d : DataW H}, d ∈ l → ∀ q ∈ d.weights P e, q ∈ DataW.weightsAll P e l
  | _ :: _, _, .head _, q, hq => by rw [DataW.weightsAll]; exact List.mem_append_left _ hq
  | _ :: _, _, .tail _ h, q, hq => by rw [DataW.weightsAll]; exact List.mem_append_right _ (mem_all h q hq)
theorem slice_weight {t e : TypeId} (ht : Tryz.prog.underlying t = some (.slice e)) (hf : DataW.trod enc Tryz.prog W 0 (fun _ => true) true fuel t cs = some x) {ao : Option Addr} {n cap : Nat} (hcs : cs = [.slice ao n cap]) (hw : ∀ q ∈ x.1.weights Tryz.prog t, q ≤ B) : n * Tryz.prog.bytesOf e ≤ B ∧ (ao = none → n = 0 ∧ cap = 0) := by
  rcases open_slice ht hf with ⟨h1, rfl⟩ | ⟨a, len, cap', m, fu, D, Pl, h1, _, hlc, hm, hmm, rfl, hel⟩
  · rw [hcs] at h1
    cases h1
    exact ⟨by simp, fun _ => ⟨rfl, rfl⟩⟩
  · rw [hcs] at h1
    cases h1
    refine ⟨?_, fun h => by cases h⟩
    have := hw ((n + (m - n)) * Tryz.prog.bytesOf e) (by simp [DataW.weights, ht])
    exact Nat.le_trans (Nat.mul_le_mul_right _ (Nat.le_add_right _ _)) this
theorem hands_weight (hf : DataW.trod enc Tryz.prog W 0 (fun _ => true) true fuel 25 cs = some x) {b off n cap : Nat} (hcs : cs = [.slice (some ⟨b, off, none⟩) n cap]) (hw : ∀ q ∈ x.1.weights Tryz.prog 25, q ≤ B) : ∀ i, i < n → ∀ ao' n' c', W.cell? ⟨b, off + i, none⟩ = some (.slice ao' n' c') → n' * Tryz.prog.bytesOf 42 ≤ B ∧ (ao' = none → n' = 0 ∧ c' = 0) := by
  intro i hi ao' n' c' hc
  rcases open_slice Tryz.underlying25 hf with ⟨h1, rfl⟩ | ⟨a, len, cap', m, fu, D, Pl, h1, _, hlc, hm, hmm, rfl, hel⟩
  · rw [hcs] at h1
    cases h1
  · rw [hcs] at h1
    cases h1
    simp at hmm
    obtain ⟨cs', h2, h3⟩ := hel i (by omega)
    rw [ncells49] at h2
    obtain ⟨_, hlen, hcell⟩ := World.cells?_some h2
    have hcs' : cs' = [.slice ao' n' c'] := by
      have e := hcell 0 (by simp)
      rw [add_add, add_plain] at e
      simp only [Nat.mul_one, Nat.add_zero] at e
      rw [hc] at e
      obtain ⟨y, rfl⟩ : ∃ y, cs' = [y] := by
        match cs', hlen with
        | [y], _ => exact ⟨y, rfl⟩
      simp at e
      rw [e]
    exact slice_weight Tryz.underlying43 h3 hcs' (fun q hq => hw q (by
      simp only [DataW.weights, Tryz.underlying25]
      exact List.mem_cons_of_mem _ (List.mem_append_left _ (mem_all (List.mem_map.2 ⟨i, List.mem_range.2 hi, rfl⟩) q hq))))
end
theorem ncellsRK : Tryz.prog.cellsOf 28 = 10 := by kernel_rfl
theorem bytesU : Tryz.prog.bytesOf 38 = 8 := by kernel_rfl
theorem bytesI : Tryz.prog.bytesOf 3 = 8 := by kernel_rfl
theorem bytesS : Tryz.prog.bytesOf 43 = 24 := by kernel_rfl
theorem bytesJ : Tryz.prog.bytesOf 42 = 40 := by kernel_rfl
set_option maxRecDepth 4000 in
theorem open_runK {H : Type} {enc : TypeId × Value → H} {W : World} {base B : Nat} {v : Value} {d : DataW H} {p : List MemPlace} (hv : Value.okWide Tryz.prog W .any base 28 v) (h : DataW.Trod enc Tryz.prog W 0 (fun _ => true) true 28 v d p) (hw : ∀ q ∈ d.weights Tryz.prog 28, q ≤ B) :
    ∃ (sh : Shp) (ao : Option Addr) (n cap : Nat) (f : Nat → Int) (aoh : Option Addr) (nh caph : Nat) (jn : Nat → Nat) (jb : Nat → Nat → Jb) (aos : Option Addr) (ns caps : Nat) (s : Nat → Int) (most : Int),
      v = .agg #[.int .i64 sh.a, .int .i64 sh.b, .int .i64 sh.c, .int .i64 sh.d, .int .i64 sh.e, .int .i64 sh.f, .slice ao n cap, .slice aoh nh caph, .slice aos ns caps, .int .i64 most] ∧
      (ao = none → n = 0 ∧ cap = 0) ∧ Sees W W.heap.size ao n f ∧ (∀ i, i < n → 0 ≤ f i ∧ f i ≤ 18446744073709551615) ∧ SeesH W W.heap.size aoh nh jn jb ∧ (∀ h, h < nh → ∀ j, j < jn h → (jb h j).wf) ∧ SeesI W W.heap.size aos ns s ∧
      (aos = none → ns = 0 ∧ caps = 0) ∧ (∀ h, h < nh → ∀ b off c, aoh = some ⟨b, off, none⟩ → W.cell? ⟨b, off + h, none⟩ = some (.slice none (jn h) c) → c = 0) ∧ n * 8 ≤ B ∧ nh * 24 ≤ B ∧ (∀ h, h < nh → jn h * 40 ≤ B) ∧ ns * 8 ≤ B := by
  obtain ⟨cs, rfl, hsz⟩ := okWide_struct Tryz.underlying28 hv
  rw [ncellsRK] at hsz
  obtain ⟨l⟩ := cs
  obtain ⟨c0, c1, c2, c3, c4, c5, c6, c7, c8, c9, rfl⟩ := list10 hsz
  obtain ⟨fuel, hf⟩ := h
  obtain ⟨xs, m, _, hx, _, hl, hel⟩ := DataW.trod_struct Tryz.underlying28 hf
  obtain ⟨y0, y1, y2, y3, y4, rfl⟩ := list5' hl
  obtain ⟨rfl, rfl⟩ : d = .agg ([y0, y1, y2, y3, y4].map (·.1)) ∧ p = [y0, y1, y2, y3, y4].flatMap (·.2) := by injection hx with h1 h2; exact ⟨h1, h2⟩
  have each : ∀ (j : Nat) (t : TypeId) (y : DataW H × List MemPlace), [23, 24, 25, 26, 3][j]? = some t → [y0, y1, y2, y3, y4][j]? = some y → ∀ q ∈ y.1.weights Tryz.prog t, q ≤ B := fun j t y h1 h2 q hq => hw q (by
    simp only [DataW.weights, Tryz.underlying28]
    exact DataW.weights_mem_each (j := j) (t := t) (d := y.1) h1 (by rw [List.getElem?_map, h2]; rfl) q hq)
  have q0 := hel 0 _ rfl
  have q1 := hel 1 _ rfl
  have q2 := hel 2 _ rfl
  have q3 := hel 3 _ rfl
  have q4 := hel 4 _ rfl
  simp [ncellsSh, ncellsW, ncellsH, ncellsI, ncells3, Value.cells] at q0 q1 q2 q3 q4
  obtain ⟨sh, e0⟩ := shape_t rfl q0
  obtain ⟨ao, n, cap, f, e1, a1, a2, a3, a4⟩ := words_t q1
  obtain ⟨aoh, nh, caph, jn, jb, e2, b1, b2, b3⟩ := hands_t q2
  obtain ⟨aos, ns, caps, s, e3, d1, d2⟩ := nums_t q3
  obtain ⟨most, e4, _, _⟩ := DataW.trod_int Tryz.underlying3 q4
  have w1 := slice_weight Tryz.underlying24 q1 e1 (each 1 _ y1 rfl rfl)
  have w2 := slice_weight Tryz.underlying25 q2 e2 (each 2 _ y2 rfl rfl)
  have w3 := slice_weight Tryz.underlying26 q3 e3 (each 3 _ y3 rfl rfl)
  have w4 : ∀ h, h < nh → ∀ b off ao' n' c', aoh = some ⟨b, off, none⟩ → W.cell? ⟨b, off + h, none⟩ = some (.slice ao' n' c') → n' * 40 ≤ B ∧ (ao' = none → n' = 0 ∧ c' = 0) := fun h hh b off ao' n' c' ea hc => by
    subst ea
    have := hands_weight q2 e2 (each 2 _ y2 rfl rfl) h hh ao' n' c' hc
    rwa [bytesJ] at this
  rw [bytesU] at w1
  rw [bytesS] at w2
  rw [bytesI] at w3
  simp at e0 e1 e2 e3 e4
  obtain ⟨rfl, rfl, rfl, rfl, rfl, rfl⟩ := e0
  subst e1 e2 e3 e4
  refine ⟨sh, ao, n, cap, f, aoh, nh, caph, jn, jb, aos, ns, caps, s, most, rfl, a1, a3, a4, b2, b3, d2, w3.2, fun h hh b off c ea hc => ((w4 h hh b off none _ c ea hc).2 rfl).2, w1.1, w2.1, fun h hh => ?_, w3.1⟩
  obtain ⟨b, off, ao', c', ea, _, hc, _⟩ := b2 h hh
  exact (w4 h hh b off ao' _ c' ea hc).1
end L17
end
end Go.Proofs.YtidihnnmdmlgfaaGreat
namespace Go.Proofs.YtidihnnmdmlgfaaGreat
set_option maxHeartbeats 8000000
set_option linter.unusedVariables false
set_option linter.unusedSimpArgs false
section
open Go.ChangeShapes Go.WideShapes Go.ChangeAt Go.RowKit Go.Deep
set_option maxRecDepth 100000
namespace REachLaw
theorem list1' {α : Type} {l : List α} (h : l.length = 1) : ∃ a, l = [a] := by
  match l, h with
  | [a], _ => exact ⟨a, rfl⟩
theorem isLaw : Lift.IsLaw Rows.roomEachSpec 1 := ⟨rfl, fun H ds h => by obtain ⟨a, rfl⟩ := list1' h; rfl⟩
theorem lifted (os : Os) (started : os.Started) (H : Type) (enc : TypeId × Value → H) :
    ReturnsInHanded {} Tryz.checked os 3 .any (Rows.roomEachSpec.pre6 enc Tryz.prog Tryz.f3 Rows.roomEachRow.domain false) (Rows.roomEachSpec.post enc Tryz.prog Tryz.f3 false true false false) := by
  refine returnsInHanded_of_change_sized (C := Tryz.checked) Lift.own started (by kernel_rfl) Tryz.func3
    (ChangeSpec.witness6 (enc := enc) (C := Tryz.checked) false ⟨#[], #[.agg #[.int .i64 0, .int .i64 0, .int .i64 0, .int .i64 0, .int .i64 0, .int .i64 0, .slice none 0 0, .slice none 0 0, .slice none 0 0, .int .i64 0]], []⟩ 8 (by kernel_rfl) (by kernel_rfl) (by kernel_rfl) (by kernel_rfl)) ?_
  intro W base args ds gs before hval0 hW hcnd hsz0 _
  have hgs : gs = [] := by
    obtain ⟨_, _, _, hV, _⟩ := hW
    exact (trodVars_none hV).1
  subst hgs
  refine Lift.contract enc (tb := 4) isLaw (by kernel_rfl) (by kernel_rfl) Tryz.underlying4 W args ds [] before hW ?_
  intro p hA0
  have hval : ∀ (j : Nat) t v, Tryz.f3.params[j]? = some t → args[j]? = some v → Value.okWide Tryz.prog W .any base t v := hval0
  have hA : DataW.TrodAll enc Tryz.prog W 0 (fun _ => true) true Tryz.f3.params.toList args.toList ds p := hA0
  rw [Tryz.params3] at hA hval
  obtain ⟨v0, vs0, d0, ds0, p0, q0, hargs0, rfl, rfl, k0, hA1⟩ := trodAll_cons hA
  obtain ⟨rfl, rfl, rfl⟩ := trodAll_nil hA1
  obtain rfl : args = #[v0] := by cases args; simp_all
  have hz : ∀ q ∈ d0.weights Tryz.prog 28, q ≤ reachBytes := fun q hq => by
    have hm := DataW.weights_mem_each (ts := Tryz.f3.params.toList ++ Rows.roomEachSpec.plain.varTypes Tryz.prog) (ds := [d0] ++ []) (j := 0) (t := 28) (d := d0) (by rw [Tryz.params3]; rfl) rfl q hq
    have := List.all_eq_true.1 hsz0 q hm
    simpa using this
  have hR : reachBytes + 4096 ≤ 140737488355328 := by decide
  obtain ⟨sh, ao, n, cap, f, aoh, nh, caph, jn, jb, aos, ns, caps, sch, most, rfl, hnil, hs, hf, hh, hjw, hi, hni, hnh, z1, z2, z3, z4⟩ := L17.open_runK (hval 0 28 v0 rfl rfl) k0 hz
  exact Rom.each_walk (nw := n) (P := ⟨(Rom.sizeOf sh).toNat, nh, jn, jb, ns, sch⟩) (fun h5 => by obtain ⟨want, h1, _⟩ := Rom.size_nat h5; simp only; omega) hh (by simp only; omega) hi hjw
end REachLaw
theorem roomEach_holds : Rows.RoomEachSaid :=
  OpenClaim.holds_of_wide 3 Tryz.f3 rfl rfl rfl rfl rfl rfl rfl ⟨rfl, rfl, rfl, rfl, rfl⟩ rfl rfl rfl rfl rfl (by kernel_rfl) Tryz.func3 (by kernel_rfl)
    (of_decide_eq_true (by kernel_rfl)) (by unfold Func.isWrapper; first | (rw [if_pos (by decide +kernel)]; kernel_rfl) | (rw [if_neg (by decide +kernel)]; exact ⟨rfl, rfl⟩))
    (fun os started H enc _ => REachLaw.lifted os started H enc)
#print axioms roomEach_holds
end
end Go.Proofs.YtidihnnmdmlgfaaGreat
