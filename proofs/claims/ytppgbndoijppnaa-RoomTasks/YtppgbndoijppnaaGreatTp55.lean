/-
  Lemmas: Lift, Open, OpenR.
-/
import Derived.Test.YtppgbndoijppnaaGreatRows
import Derived.WalkKit
import Derived.ProofKit
import Derived.OpenShut
import Derived.ChangeOld
import Derived.Below
import Derived.JoinedCond
import Derived.Leaving
import Derived.Conc.LeavingOf
import Derived.Test.YtppgbndoijppnaaGreatTp09
import Derived.Test.YtppgbndoijppnaaGreatTp05
import Derived.SizedLaws
import Derived.Deep.Slices
import Derived.Test.YtppgbndoijppnaaGreatTp06
namespace Go.Proofs.YtppgbndoijppnaaGreat
set_option maxHeartbeats 8000000
set_option linter.unusedVariables false
set_option linter.unusedSimpArgs false
section
namespace Lift
open Go.ChangeShapes Go.WideShapes Go.ChangeAt Go.RowKit
theorem own : ownKnob Tryz.prog.godebug = none := by kernel_rfl
theorem laidOut : laidOutB Tryz.prog = true := by kernel_rfl
theorem trodAll_below {H : Type} {enc : TypeId × Value → H} {P : Program} (hl : laidOutB P = true) {W W' : World} (hb : Below W.heap.size W W') :
  ∀ (ts : List TypeId) (vs : List Value) (ds : List (DataW H)) (p : List MemPlace), (ts.all fun t => P.readableRec t && decide (t < P.types.size)) = true →
   DataW.TrodAll enc P W 0 (fun _ => true) true ts vs ds p → DataW.TrodAll enc P W' 0 (fun b => decide (b < W.heap.size)) true ts vs ds p := by
 intro ts
 induction ts with
 | nil =>
  intro vs ds p _ h
  obtain ⟨rfl, rfl, rfl⟩ := trodAll_nil h
  exact trodAll_mk0
 | cons t ts ih =>
  intro vs ds p hr h
  obtain ⟨v, vs', d, ds', p1, q1, rfl, rfl, rfl, h1, h2⟩ := trodAll_cons h
  simp only [List.all_cons, Bool.and_eq_true, decide_eq_true_eq] at hr
  have lt : ∀ x ∈ p1, x.block < W.heap.size := by obtain ⟨m, hm⟩ := h1; exact DataW.trod_lt m _ _ _ hm
  exact trodAll_cons_mk (Below.trod hl hr.1.1 hr.1.2 h1 hb lt) (ih vs' ds' q1 hr.2 h2)
structure IsLaw (s : ChangeSpec) (n : Nat) : Prop where
 vars : s.vars = []
 fn : ∀ (H : Type) (ds : List (DataW H)), ds.length = n → s.fn H (ds ++ []) = { results := [.lit (.bool true)], args := ds }
theorem trodAll_length {H : Type} {enc : TypeId × Value → H} {P : Program} {w : World} {base : Nat} {spare : Nat → Bool} {held : Bool} :
  ∀ (ts : List TypeId) (vs : List Value) (ds : List (DataW H)) (p : List MemPlace), DataW.TrodAll enc P w base spare held ts vs ds p → ds.length = ts.length := by
 intro ts
 induction ts with
 | nil => intro vs ds p h; obtain ⟨rfl, rfl, rfl⟩ := trodAll_nil h; rfl
 | cons t ts ih =>
  intro vs ds p h
  obtain ⟨v, vs', d, ds', p1, q1, rfl, rfl, rfl, h1, h2⟩ := trodAll_cons h
  simp [ih vs' ds' q1 h2]
theorem contract {H : Type} (enc : TypeId × Value → H) {f : FuncId} {fn : Func} {s : ChangeSpec} {tb : TypeId} (hs : IsLaw s fn.params.size)
  (hr : (fn.params.toList.all fun t => Tryz.prog.readableRec t && decide (t < Tryz.prog.types.size)) = true) (hres : fn.resultTypes = #[tb]) (htb : Tryz.prog.underlying tb = some .bool)
  (W : World) (args : Array Value) (ds gs : List (DataW H)) (before : List MemPlace)
  (hW : DataW.Whole enc Tryz.prog fn.params.toList s.vars false W args.toList ds gs before)
  (walk : ∀ p, DataW.TrodAll enc Tryz.prog W 0 (fun _ => true) true fn.params.toList args.toList ds p → Calls Tryz.prog f args W fun e W' => e = .returned (.bool true) ∧ Below W.heap.size W W') :
  Calls Tryz.prog f args W fun e W' => ∃ v, e = .returned v ∧ s.post enc Tryz.prog fn false true false false W args v W' := by
 have hW' := hW
 obtain ⟨p, q, hA, hV, rfl, hfz, hnd⟩ := hW
 have hn := trodAll_length _ _ _ _ hA
 rw [hs.vars] at hV
 obtain ⟨rfl, rfl⟩ := trodVars_none hV
 have he := hs.fn H ds (by simpa using hn)
 refine (walk p hA).mono fun e W' ⟨hee, bel⟩ => ?_
 subst hee
 refine ⟨_, rfl, ds, [], _, [], p, [], hW', ?_, ?_, ?_, bel.frame _, fun h => by cases h⟩
 ·rw [he, hres]
  exact trodAll_mk1 (shut_bool htb _)
 ·rw [he]
  exact trodAll_below laidOut bel _ _ _ _ hr hA
 ·rw [he, hs.vars]
  rfl
end Lift
end
section
open Go.ChangeShapes Go.WideShapes Go.ChangeAt Go.RowKit Go.Deep
set_option maxRecDepth 100000
theorem ncells46 : Tryz.prog.cellsOf 50 = 1 := by kernel_rfl
theorem ncells3 : Tryz.prog.cellsOf 3 = 1 := by kernel_rfl
theorem ncells49 : Tryz.prog.cellsOf 71 = 1 := by kernel_rfl
theorem ncells51 : Tryz.prog.cellsOf 52 = 5 := by kernel_rfl
section
variable {H : Type} {enc : TypeId × Value → H} {W : World} {base : Nat} {v : Value} {d : DataW H} {p : List MemPlace}
theorem list5 {α : Type} {l : List α} (h : l.length = 5) : ∃ a b c d e, l = [a, b, c, d, e] := by
 match l, h with
 | [a, b, c, d, e], _ => exact ⟨a, b, c, d, e, rfl⟩
set_option maxRecDepth 4000 in
theorem open_job {n : Nat} {cs : List Value} {x : DataW H × List MemPlace} (hl : cs.length = 5) (h : DataW.trod enc Tryz.prog W 0 (fun _ => true) true n 52 cs = some x) :
  ∃ j : Jb, (∀ q, q < 5 → cs[q]? = some (j.cell q)) ∧ j.wf := by
 obtain ⟨c0, c1, c2, c3, c4, rfl⟩ := list5 hl
 obtain ⟨xs, m, _, hx, _, hl, hel⟩ := DataW.trod_struct Tryz.underlying52 h
 obtain ⟨y0, y1, y2, y3, y4, rfl⟩ := list5 hl
 have q0 := hel 0 _ rfl
 have q1 := hel 1 _ rfl
 have q2 := hel 2 _ rfl
 have q3 := hel 3 _ rfl
 have q4 := hel 4 _ rfl
 simp [ncells3, ncells46, Value.cells] at q0 q1 q2 q3 q4
 obtain ⟨h0, e0, _, b0⟩ := DataW.trod_int Tryz.underlying3 q0
 obtain ⟨h1, e1, _, b1⟩ := DataW.trod_int Tryz.underlying3 q1
 obtain ⟨h2, e2, _, b2⟩ := DataW.trod_int Tryz.underlying3 q2
 obtain ⟨h3, e3, _, b3⟩ := DataW.trod_int Tryz.underlying3 q3
 obtain ⟨h4, e4, _, b4⟩ := DataW.trod_int Tryz.underlying50 q4
 simp at e0 e1 e2 e3 e4
 subst e0 e1 e2 e3 e4
 refine ⟨⟨h0, h1, h2, h3, h4⟩, fun q hq => ?_, bounds_u64 b4⟩
 match q, hq with
 | 0, _ | 1, _ | 2, _ | 3, _ | 4, _ => rfl
instance : Inhabited Jb := ⟨⟨0, 0, 0, 0, 0⟩⟩
theorem open_jobs {fuel : Nat} {cs : List Value} {x : DataW H × List MemPlace} (hl : cs.length = 1) (hf : DataW.trod enc Tryz.prog W 0 (fun _ => true) true fuel 71 cs = some x) :
  ∃ ao n cap, cs = [.slice ao n cap] ∧ ∃ j : Nat → Jb, SeesJ W W.heap.size ao n j ∧ ∀ i, i < n → (j i).wf := by
 have lt8 := DataW.trod_lt fuel _ _ _ hf
 rcases open_slice Tryz.underlying71 hf with ⟨hcs, hx⟩ | ⟨a, len, cap', m, fu, D, Pl, hcs, _, hlc, hm, hmm, hx, hel⟩
 ·exact ⟨none, 0, 0, hcs, fun _ => default, fun j hj => absurd hj (Nat.not_lt_zero _), fun i hi => absurd hi (Nat.not_lt_zero _)⟩
 ·subst hx
  simp only [ncells51] at hel lt8
  have each : ∀ i, i < m → ∃ s : Jb, (∀ j, j < 5 → W.cell? (a.add (i * 5 + j)) = some (s.cell j)) ∧ s.wf := by
   intro i hi
   obtain ⟨cs', h1, h2⟩ := hel i hi
   obtain ⟨_, hlen, hcell⟩ := World.cells?_some h1
   obtain ⟨s, hs, hwf⟩ := open_job hlen h2
   refine ⟨s, fun j hj => ?_, hwf⟩
   have e := hcell j (by omega)
   rw [add_add] at e
   rw [e]
   exact hs j hj
  obtain ⟨q, hq⟩ := choose_lt each
  simp only [Bool.true_or, if_true] at hmm
  refine ⟨some a, len, cap', hcs, q, fun j hj => ?_, fun i hi => (hq i (by omega)).2⟩
  have hjm : j < m := by omega
  obtain ⟨b, off, spot⟩ := a
  have c0 := (hq 0 (by omega)).1 0 (by omega)
  have hspot : spot = none := by simpa [Addr.add] using World.cell?_spot c0
  subst hspot
  refine ⟨b, off, rfl, ?_, fun i hi => ?_⟩
  ·have := lt8 (MemPlace.cell b off) (List.mem_append_left _ (by simp only [MemPlace.row]; exact List.mem_map.2 ⟨0, List.mem_range.2 (by omega), rfl⟩))
   exact this
  ·have e := (hq j hjm).1 i hi
   rw [Go.WideShapes.add_plain] at e
   rw [Nat.add_assoc]
   exact e
end
end
section
open Go.ChangeShapes Go.WideShapes Go.ChangeAt Go.RowKit Go.Deep
set_option maxRecDepth 100000
section
variable {H : Type} {enc : TypeId × Value → H} {W : World} {base : Nat} {v : Value} {d : DataW H} {p : List MemPlace} {fuel : Nat} {cs : List Value} {x : DataW H × List MemPlace}
theorem words_t (hf : DataW.trod enc Tryz.prog W 0 (fun _ => true) true fuel 24 cs = some x) :
  ∃ (ao : Option Addr) (n cap : Nat) (f : Nat → Int), cs = [.slice ao n cap] ∧ (ao = none → n = 0 ∧ cap = 0) ∧ n ≤ maxLen ∧ Sees W W.heap.size ao n f ∧ (∀ i, i < n → 0 ≤ f i ∧ f i ≤ 18446744073709551615) := by
 have lt8 := DataW.trod_lt fuel _ _ _ hf
 rcases open_ints Tryz.underlying24 Tryz.underlying50 ncells46 hf with ⟨hcs, hx⟩ | ⟨a, n, cap, zs, hcs, _, hlc, hm, hz, hx, hcell, hwz⟩
 ·exact ⟨none, 0, 0, fun _ => 0, hcs, fun _ => ⟨rfl, rfl⟩, Nat.zero_le _, fun j hj => absurd hj (Nat.not_lt_zero _), fun i hi => absurd hi (Nat.not_lt_zero _)⟩
 ·simp at hz
  subst hx
  refine ⟨some a, n, cap, fun i => zs.getD i 0, hcs, (fun h => by cases h), by omega, fun j hj => ?_, fun i hi => ?_⟩
  ·obtain ⟨b, off, rfl, hc⟩ := ints_at hcell (by omega)
   refine ⟨b, off, rfl, ?_, hc j (by omega)⟩
   have := lt8 (MemPlace.cell b off) (by simp only [MemPlace.row]; exact List.mem_map.2 ⟨0, List.mem_range.2 (by omega), rfl⟩)
   exact this
  ·have hi' : i < zs.length := by omega
   have hmem : zs.getD i 0 ∈ zs := by simp [List.getD, hi']
   exact bounds_u64 (hwz _ hmem)
theorem nums_t (hf : DataW.trod enc Tryz.prog W 0 (fun _ => true) true fuel 26 cs = some x) :
  ∃ (ao : Option Addr) (n cap : Nat) (s : Nat → Int), cs = [.slice ao n cap] ∧ n ≤ maxLen ∧ SeesI W W.heap.size ao n s := by
 have lt8 := DataW.trod_lt fuel _ _ _ hf
 rcases open_ints Tryz.underlying26 Tryz.underlying3 ncells3 hf with ⟨hcs, hx⟩ | ⟨a, n, cap, zs, hcs, _, hlc, hm, hz, hx, hcell, hwz⟩
 ·exact ⟨none, 0, 0, fun _ => 0, hcs, Nat.zero_le _, fun j hj => absurd hj (Nat.not_lt_zero _)⟩
 ·simp at hz
  subst hx
  refine ⟨some a, n, cap, fun i => zs.getD i 0, hcs, by omega, fun j hj => ?_⟩
  obtain ⟨b, off, rfl, hc⟩ := ints_at hcell (by omega)
  refine ⟨b, off, rfl, ?_, hc j (by omega)⟩
  have := lt8 (MemPlace.cell b off) (by simp only [MemPlace.row]; exact List.mem_map.2 ⟨0, List.mem_range.2 (by omega), rfl⟩)
  exact this
theorem hands_t (hf : DataW.trod enc Tryz.prog W 0 (fun _ => true) true fuel 25 cs = some x) :
  ∃ (ao : Option Addr) (n cap : Nat) (jn : Nat → Nat) (jb : Nat → Nat → Jb), cs = [.slice ao n cap] ∧ n ≤ maxLen ∧ SeesH W W.heap.size ao n jn jb ∧ ∀ h, h < n → ∀ j, j < jn h → (jb h j).wf := by
 have lt8 := DataW.trod_lt fuel _ _ _ hf
 rcases open_slice Tryz.underlying25 hf with ⟨hcs, hx⟩ | ⟨a, n, cap, m, fu, D, Pl, hcs, _, hlc, hm, hmm, hx, hel⟩
 ·exact ⟨none, 0, 0, fun _ => 0, fun _ _ => default, hcs, Nat.zero_le _, fun j hj => absurd hj (Nat.not_lt_zero _), fun j hj => absurd hj (Nat.not_lt_zero _)⟩
 ·simp at hmm
  subst hx
  rw [ncells49] at hel lt8
  have each : ∀ i, i < m → ∃ y : Nat × (Nat → Jb), (∃ ao' c', W.cell? (a.add i) = some (.slice ao' y.1 c') ∧ SeesJ W W.heap.size ao' y.1 y.2) ∧ ∀ k, k < y.1 → (y.2 k).wf := by
   intro i hi
   obtain ⟨cs', h1, h2⟩ := hel i hi
   obtain ⟨_, hlen, hcell⟩ := World.cells?_some h1
   obtain ⟨ao', n', c', rfl, j, hj, hw⟩ := open_jobs hlen h2
   have e := hcell 0 (by simp)
   rw [add_add] at e
   exact ⟨(n', j), ⟨ao', c', by simpa using e, hj⟩, hw⟩
  obtain ⟨q, hq⟩ := choose_lt each
  refine ⟨some a, n, cap, fun i => (q i).1, fun i => (q i).2, hcs, by omega, fun j hj => ?_, fun i hi => (hq i (by omega)).2⟩
  obtain ⟨⟨ao0, c0', e0, _⟩, _⟩ := hq 0 (by omega)
  obtain ⟨⟨ao', c', e, hs⟩, _⟩ := hq j (by omega)
  obtain ⟨b, off, spot⟩ := a
  have hspot : spot = none := by simpa [Addr.add] using World.cell?_spot e0
  subst hspot
  refine ⟨b, off, ao', c', rfl, ?_, ?_, hs⟩
  ·have := lt8 (MemPlace.cell b off) (List.mem_append_left _ (by simp only [MemPlace.row]; exact List.mem_map.2 ⟨0, List.mem_range.2 (by omega), rfl⟩))
   exact this
  ·rw [Go.WideShapes.add_plain] at e
   exact e
theorem list6 {α : Type} {l : List α} (h : l.length = 6) : ∃ a b c d e f, l = [a, b, c, d, e, f] := by
 match l, h with
 | [a, b, c, d, e, f], _ => exact ⟨a, b, c, d, e, f, rfl⟩
theorem list5' {α : Type} {l : List α} (h : l.length = 5) : ∃ a b c d e, l = [a, b, c, d, e] := by
 match l, h with
 | [a, b, c, d, e], _ => exact ⟨a, b, c, d, e, rfl⟩
theorem ncellsSh : Tryz.prog.cellsOf 23 = 6 := by kernel_rfl
theorem ncellsW : Tryz.prog.cellsOf 24 = 1 := by kernel_rfl
theorem ncellsH : Tryz.prog.cellsOf 25 = 1 := by kernel_rfl
theorem ncellsI : Tryz.prog.cellsOf 26 = 1 := by kernel_rfl
set_option maxRecDepth 4000 in
theorem shape_t (hl : cs.length = 6) (hf : DataW.trod enc Tryz.prog W 0 (fun _ => true) true fuel 23 cs = some x) :
  ∃ sh : Shp, cs = [.int .i64 sh.a, .int .i64 sh.b, .int .i64 sh.c, .int .i64 sh.d, .int .i64 sh.e, .int .i64 sh.f] := by
 obtain ⟨c0, c1, c2, c3, c4, c5, rfl⟩ := list6 hl
 obtain ⟨xs, m, _, hx, _, hl, hel⟩ := DataW.trod_struct Tryz.underlying23 hf
 obtain ⟨y0, y1, y2, y3, y4, y5, rfl⟩ := list6 hl
 have q0 := hel 0 _ rfl
 have q1 := hel 1 _ rfl
 have q2 := hel 2 _ rfl
 have q3 := hel 3 _ rfl
 have q4 := hel 4 _ rfl
 have q5 := hel 5 _ rfl
 simp [ncells3, Value.cells] at q0 q1 q2 q3 q4 q5
 obtain ⟨h0, e0, _, _⟩ := DataW.trod_int Tryz.underlying3 q0
 obtain ⟨h1, e1, _, _⟩ := DataW.trod_int Tryz.underlying3 q1
 obtain ⟨h2, e2, _, _⟩ := DataW.trod_int Tryz.underlying3 q2
 obtain ⟨h3, e3, _, _⟩ := DataW.trod_int Tryz.underlying3 q3
 obtain ⟨h4, e4, _, _⟩ := DataW.trod_int Tryz.underlying3 q4
 obtain ⟨h5, e5, _, _⟩ := DataW.trod_int Tryz.underlying3 q5
 simp at e0 e1 e2 e3 e4 e5
 subst e0 e1 e2 e3 e4 e5
 exact ⟨⟨h0, h1, h2, h3, h4, h5⟩, rfl⟩
end
end
end Go.Proofs.YtppgbndoijppnaaGreat
