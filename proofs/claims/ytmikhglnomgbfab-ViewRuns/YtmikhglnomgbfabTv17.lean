/-
  Lemmas: RAInv, RSame, Cells0, RSameG, Lift, Open.
-/
import Derived.Test.YtmikhglnomgbfabTv16
import Derived.Test.YtmikhglnomgbfabTv13
import Derived.Deep.CutRange
import Derived.Test.YtmikhglnomgbfabTv06
import Derived.Test.YtmikhglnomgbfabRows
import Derived.WalkKit
import Derived.ProofKit
import Derived.OpenShut
import Derived.ChangeOld
import Derived.Below
import Derived.JoinedCond
import Derived.Leaving
import Derived.Conc.LeavingOf
import Derived.Test.YtmikhglnomgbfabTv05
import Derived.SizedLaws
import Derived.Deep.Slices
/-
  The reference's run between two steps.
-/
namespace Go.Proofs.Ytmikhglnomgbfab
open Go.RowKit
set_option linter.unusedVariables false
set_option linter.unusedSimpArgs false
set_option linter.unnecessarySimpa false
set_option maxRecDepth 20000
open Beg
def rvL (sh : Shp) (P : Par) (blk : Rl → Nat) (capw : Nat) (vh sv : Value) (la : Int) : List Value := runCells sh (.slice (some ⟨blk .words, 0, none⟩) P.n capw) vh (sl (blk .tasks) P.nh) (sl (blk .going) P.nh) (sl (blk .run) P.nh) (sl (blk .mem) P.nh) sv (sl (blk .answers) P.nh) la
end Go.Proofs.Ytmikhglnomgbfab
/-
  The reference's comparisons: of steps, of traces.
-/
namespace Go.Proofs.Ytmikhglnomgbfab
open Go.RowKit
set_option linter.unusedVariables false
set_option linter.unusedSimpArgs false
set_option linter.unnecessarySimpa false
set_option maxRecDepth 20000
end Go.Proofs.Ytmikhglnomgbfab
/-
  Single cells of rows that grow.
-/
namespace Go.Proofs.Ytmikhglnomgbfab
open Go.RowKit
set_option linter.unusedVariables false
set_option linter.unusedSimpArgs false
set_option maxRecDepth 20000
theorem grows_cell {blk : Rl → Nat} {c : Rl → Option Row} {r : Rl} {e : TypeId} {sz k : Nat} {xs : List Value} {v : Value} {w : World} {base : Nat} (h : Grows blk c r e sz k xs v) (H : Has w base blk c) (hl : xs.length = k * sz) (hk : 0 < k) :
    ∃ b cap, v = .slice (some ⟨b, 0, none⟩) k cap ∧ b < w.heap.size ∧ base ≤ b ∧ ∀ i u, xs[i]? = some u → w.cell? ⟨b, i, none⟩ = some u := by
  rcases h with ⟨rfl, _⟩ | ⟨cap, F, rfl, hc, hkc, hcm, hp⟩
  · omega
  · refine ⟨blk r, cap, rfl, H.lt hc, H.new _ _ hc, fun i u hu => ?_⟩
    have hi : i < xs.length := by rcases Nat.lt_or_ge i xs.length with l | l; exact l; rw [List.getElem?_eq_none l] at hu; cases hu
    have hlt : i < cap * sz := by have := Nat.mul_le_mul_right sz hkc; omega
    rw [H.cell hc hlt]
    show some (F i) = _
    rw [hp i u hu]
theorem stepCells_get (s : Nat → Stp) (k j i : Nat) (hj : j < k) (hi : i < 6) : (stepCells s k)[j * 6 + i]? = some ((s j).cell i) := by
  induction k with
  | zero => omega
  | succ k ih =>
    simp only [stepCells]
    by_cases e : j = k
    · subst e
      rw [List.getElem?_append_right (by rw [stepCells_length]; omega), stepCells_length, show j * 6 + i - j * 6 = i by omega]
      match i, hi with
      | 0, _ | 1, _ | 2, _ | 3, _ | 4, _ | 5, _ => rfl
    · rw [List.getElem?_append_left (by rw [stepCells_length]; omega)]
      exact ih (by omega)
def Ans.cell (x : Ans) (i : Nat) : Value := match i with | 0 => .bool x.ok | _ => .int .u64 x.val
end Go.Proofs.Ytmikhglnomgbfab
/-
  The reference's comparison of answers; a told run as it is seen.
-/
namespace Go.Proofs.Ytmikhglnomgbfab
open Go.RowKit
set_option linter.unusedVariables false
set_option linter.unusedSimpArgs false
set_option linter.unnecessarySimpa false
set_option maxRecDepth 20000
def SeesA (w : World) (B : Nat) (ao : Option Addr) (nh : Nat) (dn : Nat → Nat) (an : Nat → Nat → Ans) : Prop :=
  ∀ h, h < nh → ∃ b off av cap, ao = some ⟨b, off, none⟩ ∧ b < B ∧ w.cell? ⟨b, off + h, none⟩ = some (.slice av (dn h) cap) ∧ ∀ j, j < dn h → ∃ b' off', av = some ⟨b', off', none⟩ ∧ b' < B ∧ ∀ i, i < 2 → w.cell? ⟨b', off' + j * 2 + i, none⟩ = some (Ans.cell (an h j) i)
theorem SeesA.below {w w' : World} {B C : Nat} {ao : Option Addr} {nh : Nat} {dn : Nat → Nat} {an : Nat → Nat → Ans} (S : SeesA w B ao nh dn an) (hb : Below C w w') (hBC : B ≤ C) : SeesA w' B ao nh dn an := fun h hh => by
  obtain ⟨b, off, av, cap, e, hl, hc, hj⟩ := S h hh
  refine ⟨b, off, av, cap, e, hl, (hb.cell (p := ⟨b, off + h, none⟩) (by show b < C; omega)).trans hc, fun j hjj => ?_⟩
  obtain ⟨b', off', e', hl', hc'⟩ := hj j hjj
  exact ⟨b', off', e', hl', fun i hi => (hb.cell (p := ⟨b', off' + j * 2 + i, none⟩) (by show b' < C; omega)).trans (hc' i hi)⟩
theorem SeesA.mono {w : World} {B C : Nat} {ao : Option Addr} {nh : Nat} {dn : Nat → Nat} {an : Nat → Nat → Ans} (S : SeesA w B ao nh dn an) (hBC : B ≤ C) : SeesA w C ao nh dn an := fun h hh => by
  obtain ⟨b, off, av, cap, e, hl, hc, hj⟩ := S h hh
  exact ⟨b, off, av, cap, e, by omega, hc, fun j hjj => by obtain ⟨b', off', e', hl', hc'⟩ := hj j hjj; exact ⟨b', off', e', by omega, hc'⟩⟩
theorem Grows.seesS {blk : Rl → Nat} {c : Rl → Option Row} {k : Nat} {s : Nat → Stp} {w : World} {base : Nat} {sa : Option Addr} {sc : Nat} (h : Grows blk c .steps 63 6 k (stepCells s k) (.slice sa k sc)) (H : Has w base blk c) : SeesS w w.heap.size sa k s := fun j hj => by
  obtain ⟨b, cap, e, hl, _, hc⟩ := grows_cell h H (stepCells_length _ _) (by omega)
  injection e with e1 _ _
  refine ⟨b, 0, e1, hl, fun i hi => ?_⟩
  rw [Nat.zero_add]
  exact hc _ _ (stepCells_get s k j i hj hi)
theorem first_not (p : Nat → Prop) : ∀ n, (∀ i, i < n → p i) ∨ ∃ i, i < n ∧ ¬ p i ∧ ∀ j, j < i → p j
  | 0 => .inl (fun i hi => absurd hi (Nat.not_lt_zero i))
  | n + 1 => by
    rcases first_not p n with h | ⟨i, hi, h1, h2⟩
    · by_cases hp : p n
      · exact .inl (fun i hi => by rcases Nat.lt_or_ge i n with l | l; exact h i l; obtain rfl : i = n := (by omega); exact hp)
      · exact .inr ⟨n, by omega, hp, h⟩
    · exact .inr ⟨i, by omega, h1, h2⟩
theorem ErrOf.one {K : Kd} {P : Par} {most e e' : Int} (h : ErrOf K P most e) (h' : ErrOf K P most e') : e = e' := by
  have neg : ¬ (LongHands P.nh P.jn ∨ 65536 < P.ns ∨ 65536 < most) ∨ (LongHands P.nh P.jn ∨ 65536 < P.ns ∨ 65536 < most) := (Classical.em _).symm
  rcases h with ⟨a1, rfl⟩ | ⟨a1, a2, rfl⟩ | ⟨a1, a2, a3, a4, rfl⟩ | ⟨⟨a1, a2, a3, a4, a5⟩, a6⟩ <;> rcases h' with ⟨b1, rfl⟩ | ⟨b1, b2, rfl⟩ | ⟨b1, b2, b3, b4, rfl⟩ | ⟨⟨b1, b2, b3, b4, b5⟩, b6⟩
  all_goals first
    | rfl
    | (exfalso; omega)
    | (exfalso; rcases a2 with a2 | a2 | a2; exact b2 a2; omega; omega)
    | (exfalso; rcases b2 with b2 | b2 | b2; exact a2 b2; omega; omega)
    | exact a6.one b6
theorem ErrOf.not {K : Kd} {P : Par} {most e : Int} (h : ErrOf K P most e) : ¬ (Fine P most ∧ AllOk K P) := by
  rintro ⟨⟨b1, b2, b3, b4, b5⟩, b6⟩
  rcases h with ⟨a1, _⟩ | ⟨a1, a2, _⟩ | ⟨a1, a2, a3, a4, _⟩ | ⟨_, a6⟩
  · omega
  · rcases a2 with a2 | a2 | a2
    · exact b2 a2
    · omega
    · omega
  · omega
  · exact a6.not b6
end Go.Proofs.Ytmikhglnomgbfab
/-
  From a walk to a law's statement, whatever the law's arguments: where the call answers true and turns nothing below the heap's old size, the arguments read as they did, and the row's step holds.
-/
namespace Go.Proofs.Ytmikhglnomgbfab
namespace Lift
open Go.ChangeShapes Go.WideShapes Go.ChangeAt Go.RowKit
set_option linter.unusedVariables false
theorem own : ownKnob Try.prog.godebug = none := by kernel_rfl
theorem laidOut : laidOutB Try.prog = true := by kernel_rfl
theorem trodAll_below {H : Type} {enc : TypeId × Value → H} {P : Program} (hl : laidOutB P = true) {W W' : World} (hb : Below W.heap.size W W') :
    ∀ (ts : List TypeId) (vs : List Value) (ds : List (DataW H)) (p : List MemPlace), (ts.all fun t => P.readableRec t && decide (t < P.types.size)) = true →
      DataW.TrodAll enc P W 0 (fun _ => true) true ts vs ds p → DataW.TrodAll enc P W' 0 (fun b => decide (b < W.heap.size)) true ts vs ds p := by
  intro ts
  induction ts with
  | nil =>
    intro vs ds p _ h
    obtain ⟨rfl, rfl, rfl⟩ := trodAll_nil h
    exact trodAll_mk0
  | cons t ts ih =>
    intro vs ds p hr h
    obtain ⟨v, vs', d, ds', p1, q1, rfl, rfl, rfl, h1, h2⟩ := trodAll_cons h
    simp only [List.all_cons, Bool.and_eq_true, decide_eq_true_eq] at hr
    have lt : ∀ x ∈ p1, x.block < W.heap.size := by obtain ⟨m, hm⟩ := h1; exact DataW.trod_lt m _ _ _ hm
    exact trodAll_cons_mk (Below.trod hl hr.1.1 hr.1.2 h1 hb lt) (ih vs' ds' q1 hr.2 h2)
structure IsLaw (s : ChangeSpec) (n : Nat) : Prop where
  vars : s.vars = []
  fn : ∀ (H : Type) (ds : List (DataW H)), ds.length = n → s.fn H (ds ++ []) = { results := [.lit (.bool true)], args := ds }
theorem trodAll_length {H : Type} {enc : TypeId × Value → H} {P : Program} {w : World} {base : Nat} {spare : Nat → Bool} {held : Bool} :
    ∀ (ts : List TypeId) (vs : List Value) (ds : List (DataW H)) (p : List MemPlace), DataW.TrodAll enc P w base spare held ts vs ds p → ds.length = ts.length := by
  intro ts
  induction ts with
  | nil => intro vs ds p h; obtain ⟨rfl, rfl, rfl⟩ := trodAll_nil h; rfl
  | cons t ts ih =>
    intro vs ds p h
    obtain ⟨v, vs', d, ds', p1, q1, rfl, rfl, rfl, h1, h2⟩ := trodAll_cons h
    simp [ih vs' ds' q1 h2]
theorem contract {H : Type} (enc : TypeId × Value → H) {f : FuncId} {fn : Func} {s : ChangeSpec} {tb : TypeId} (hs : IsLaw s fn.params.size)
    (hr : (fn.params.toList.all fun t => Try.prog.readableRec t && decide (t < Try.prog.types.size)) = true) (hres : fn.resultTypes = #[tb]) (htb : Try.prog.underlying tb = some .bool)
    (W : World) (args : Array Value) (ds gs : List (DataW H)) (before : List MemPlace)
    (hW : DataW.Whole enc Try.prog fn.params.toList s.vars false W args.toList ds gs before)
    (walk : ∀ p, DataW.TrodAll enc Try.prog W 0 (fun _ => true) true fn.params.toList args.toList ds p → Calls Try.prog f args W fun e W' => e = .returned (.bool true) ∧ Below W.heap.size W W') :
    Calls Try.prog f args W fun e W' => ∃ v, e = .returned v ∧ s.post enc Try.prog fn false true false false W args v W' := by
  have hW' := hW
  obtain ⟨p, q, hA, hV, rfl, hfz, hnd⟩ := hW
  have hn := trodAll_length _ _ _ _ hA
  rw [hs.vars] at hV
  obtain ⟨rfl, rfl⟩ := trodVars_none hV
  have he := hs.fn H ds (by simpa using hn)
  refine (walk p hA).mono fun e W' ⟨hee, bel⟩ => ?_
  subst hee
  refine ⟨_, rfl, ds, [], _, [], p, [], hW', ?_, ?_, ?_, bel.frame _, fun h => by cases h⟩
  · rw [he, hres]
    exact trodAll_mk1 (shut_bool htb _)
  · rw [he]
    exact trodAll_below laidOut bel _ _ _ _ hr hA
  · rw [he, hs.vars]
    rfl
theorem leaving {a : Assume} {C : Checked} {os : Os} {f : FuncId} {r : Reach} {Pre : World → Array Value → Prop} {Post : World → Array Value → Value → World → Prop} (h : ReturnsInHanded a C os f r Pre Post) : ReturnsInLeavingWide a C os f r Pre Post := fun enter => by
  obtain ⟨h1, h2, h3, h4, h5⟩ := h enter
  refine ⟨h1, h2, h3, h4, fun w tape i hf => ?_⟩
  obtain ⟨n, v, w', e1, e2, e3, e4, ⟨j, last, e5, e6, q, ho, eh⟩, e8⟩ := h5 w tape i hf
  exact ⟨n, v, w', e1, e2, e3, e4, ⟨j, last, e5, e6, ho, onlyLeaving_of_quiet q, eh⟩, e8⟩
end Lift
end Go.Proofs.Ytmikhglnomgbfab
/-
  The arguments opened: words, numbers, bools, hands.
-/
namespace Go.Proofs.Ytmikhglnomgbfab
open Go.ChangeShapes Go.WideShapes Go.ChangeAt Go.RowKit Go.Deep
set_option linter.unusedVariables false
set_option linter.unusedSimpArgs false
set_option maxRecDepth 100000
theorem ncells46 : Try.prog.cellsOf 30 = 1 := by kernel_rfl
theorem ncells3 : Try.prog.cellsOf 3 = 1 := by kernel_rfl
theorem ncells49 : Try.prog.cellsOf 39 = 1 := by kernel_rfl
theorem ncells51 : Try.prog.cellsOf 41 = 5 := by kernel_rfl
section
variable {H : Type} {enc : TypeId × Value → H} {W : World} {base : Nat} {v : Value} {d : DataW H} {p : List MemPlace}
theorem list5 {α : Type} {l : List α} (h : l.length = 5) : ∃ a b c d e, l = [a, b, c, d, e] := by
  match l, h with
  | [a, b, c, d, e], _ => exact ⟨a, b, c, d, e, rfl⟩
set_option maxRecDepth 4000 in
theorem open_job {n : Nat} {cs : List Value} {x : DataW H × List MemPlace} (hl : cs.length = 5) (h : DataW.trod enc Try.prog W 0 (fun _ => true) true n 41 cs = some x) :
    ∃ j : Jb, (∀ q, q < 5 → cs[q]? = some (j.cell q)) ∧ j.wf := by
  obtain ⟨c0, c1, c2, c3, c4, rfl⟩ := list5 hl
  obtain ⟨xs, m, _, hx, _, hl, hel⟩ := DataW.trod_struct Try.underlying41 h
  obtain ⟨y0, y1, y2, y3, y4, rfl⟩ := list5 hl
  have q0 := hel 0 _ rfl
  have q1 := hel 1 _ rfl
  have q2 := hel 2 _ rfl
  have q3 := hel 3 _ rfl
  have q4 := hel 4 _ rfl
  simp [ncells3, ncells46, Value.cells] at q0 q1 q2 q3 q4
  obtain ⟨h0, e0, _, b0⟩ := DataW.trod_int Try.underlying3 q0
  obtain ⟨h1, e1, _, b1⟩ := DataW.trod_int Try.underlying3 q1
  obtain ⟨h2, e2, _, b2⟩ := DataW.trod_int Try.underlying3 q2
  obtain ⟨h3, e3, _, b3⟩ := DataW.trod_int Try.underlying3 q3
  obtain ⟨h4, e4, _, b4⟩ := DataW.trod_int Try.underlying30 q4
  simp at e0 e1 e2 e3 e4
  subst e0 e1 e2 e3 e4
  refine ⟨⟨h0, h1, h2, h3, h4⟩, fun q hq => ?_, bounds_u64 b4⟩
  match q, hq with
  | 0, _ | 1, _ | 2, _ | 3, _ | 4, _ => rfl
instance : Inhabited Jb := ⟨⟨0, 0, 0, 0, 0⟩⟩
theorem open_jobs {fuel : Nat} {cs : List Value} {x : DataW H × List MemPlace} (hl : cs.length = 1) (hf : DataW.trod enc Try.prog W 0 (fun _ => true) true fuel 39 cs = some x) :
    ∃ ao n cap, cs = [.slice ao n cap] ∧ ∃ j : Nat → Jb, SeesJ W W.heap.size ao n j ∧ ∀ i, i < n → (j i).wf := by
  have lt8 := DataW.trod_lt fuel _ _ _ hf
  rcases open_slice Try.underlying39 hf with ⟨hcs, hx⟩ | ⟨a, len, cap', m, fu, D, Pl, hcs, _, hlc, hm, hmm, hx, hel⟩
  · exact ⟨none, 0, 0, hcs, fun _ => default, fun j hj => absurd hj (Nat.not_lt_zero _), fun i hi => absurd hi (Nat.not_lt_zero _)⟩
  · subst hx
    simp only [ncells51] at hel lt8
    have each : ∀ i, i < m → ∃ s : Jb, (∀ j, j < 5 → W.cell? (a.add (i * 5 + j)) = some (s.cell j)) ∧ s.wf := by
      intro i hi
      obtain ⟨cs', h1, h2⟩ := hel i hi
      obtain ⟨_, hlen, hcell⟩ := World.cells?_some h1
      obtain ⟨s, hs, hwf⟩ := open_job hlen h2
      refine ⟨s, fun j hj => ?_, hwf⟩
      have e := hcell j (by omega)
      rw [add_add] at e
      rw [e]
      exact hs j hj
    obtain ⟨q, hq⟩ := choose_lt each
    simp only [Bool.true_or, if_true] at hmm
    refine ⟨some a, len, cap', hcs, q, fun j hj => ?_, fun i hi => (hq i (by omega)).2⟩
    have hjm : j < m := by omega
    obtain ⟨b, off, spot⟩ := a
    have c0 := (hq 0 (by omega)).1 0 (by omega)
    have hspot : spot = none := by simpa [Addr.add] using World.cell?_spot c0
    subst hspot
    refine ⟨b, off, rfl, ?_, fun i hi => ?_⟩
    · have := lt8 (MemPlace.cell b off) (List.mem_append_left _ (by simp only [MemPlace.row]; exact List.mem_map.2 ⟨0, List.mem_range.2 (by omega), rfl⟩))
      exact this
    · have e := (hq j hjm).1 i hi
      rw [Go.WideShapes.add_plain] at e
      rw [Nat.add_assoc]
      exact e
end
end Go.Proofs.Ytmikhglnomgbfab
