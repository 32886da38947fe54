/-
  Lemmas: BeltMp, BeltAm, BeltRZ.
-/
import Derived.Test.YtchhkoalibapiaaTp31
import Derived.Maps.OwnOps
import Derived.Maps.OwnSet
import Derived.Maps.Views
import Derived.Test.YtchhkoalibapiaaTp29
import Derived.Test.YtchhkoalibapiaaTp21
/-
  BeltOrder: two maps as functions: one keyed by a word, one keyed by a hand's number that knows which hands it holds.
-/
namespace Go.Proofs.Ytchhkoalibapiaa
open Go.RowKit Go.Maps
set_option linter.unusedVariables false
set_option linter.unusedSimpArgs false
set_option maxRecDepth 20000
namespace Belt

theorem lawU : Keyed Try.prog 55 := int_keyed Try.underlying55
theorem lawI : Keyed Try.prog 3 := int_keyed Try.underlying3
theorem keyU {x : Int} (h : 0 ≤ x ∧ x ≤ 18446744073709551615) : keyOf Try.prog 55 (.int .u64 x) = some (.int .u64 x) := keyOf_int_mk Try.underlying55 (by
  simp only [Lit.wf, IntKind.has, IntKind.min, IntKind.max, IntKind.signed, IntKind.bits]
  simp
  omega)
theorem keyI {h : Nat} (hh : h < 8) : keyOf Try.prog 3 (.int .i64 (h : Int)) = some (.int .i64 (h : Int)) := keyOf_int_mk Try.underlying3 (by
  simp only [Lit.wf, IntKind.has, IntKind.min, IntKind.max, IntKind.signed, IntKind.bits]
  simp
  omega)
theorem zeroI (w : World) : (zeroValue 3).run Try.prog w = .ok (.int .i64 0) w := by kernel_rfl
theorem zeroU (w : World) : (zeroValue 55).run Try.prog w = .ok (.int .u64 0) w := by kernel_rfl
theorem elemI {a : Int} (h : -100000 ≤ a ∧ a ≤ 100000) : plainElem (H := Unit) Try.prog 3 (.int .i64 a) = some (.lit (.int .i64 a), []) := plainElem_int Try.underlying3 (by
  simp only [Lit.wf, IntKind.has, IntKind.min, IntKind.max, IntKind.signed, IntKind.bits]
  simp
  omega)
theorem elemU {a : Int} (h : 0 ≤ a ∧ a ≤ 18446744073709551615) : plainElem (H := Unit) Try.prog 55 (.int .u64 a) = some (.lit (.int .u64 a), []) := plainElem_int Try.underlying55 (by
  simp only [Lit.wf, IntKind.has, IntKind.min, IntKind.max, IntKind.signed, IntKind.bits]
  simp
  omega)

/-- Block b is a map of counts: g of each word. -/
def MapU (w : World) (b N : Nat) (g : Int → Int) : Prop :=
  ∃ D : DataW Unit, w.ownsMap Try.prog 55 (plainElem Try.prog 3) b N D ∧ IsMap D ∧ ∀ x : Int, 0 ≤ x ∧ x ≤ 18446744073709551615 → D.atKey (.int .u64 x) (.lit (.int .i64 0)) = .lit (.int .i64 (g x))
section
variable {w w' : World} {b N : Nat} {g : Int → Int} {x : Int}
theorem MapU.lt (M : MapU w b N g) : b < w.heap.size := by obtain ⟨D, ho, _⟩ := M; exact ho.lt
theorem MapU.made (w : World) : MapU (w.alloc (.map #[] 0)) w.heap.size 0 (fun _ => 0) :=
  ⟨.map [], World.ownsMap_made w Try.prog 55 _, isMap_empty, fun h _ => by simp [DataW.atKey]⟩
theorem MapU.look {T : TypeId} (ht : Try.prog.underlying T = some (.map 55 3)) (M : MapU w b N g) (hx : 0 ≤ x ∧ x ≤ 18446744073709551615) : (Instr.lookup T (.map (some b)) (.int .u64 x) false).run Try.prog w = .ok (.int .i64 (g x)) w := by
  obtain ⟨D, ho, _, hd⟩ := M
  obtain ⟨c, hrun, hat, _⟩ := ho.lookup_int lawU ht Try.underlying3 (zeroI w) (keyU hx)
  have e := hd x hx
  rw [hat] at e
  cases e
  exact hrun
theorem MapU.put {T : TypeId} (ht : Try.prog.underlying T = some (.map 55 3)) (M : MapU w b N g) (hN : N < maxLen) (hx : 0 ≤ x ∧ x ≤ 18446744073709551615) {a : Int} (ha : -100000 ≤ a ∧ a ≤ 100000) :
    ∃ w', (Instr.mapUpdate T (.map (some b)) (.int .u64 x) (.int .i64 a)).run Try.prog w = .ok () w' ∧ MapU w' b (N + 1) (fun y => if y = x then a else g y) ∧ w.grownBy w' (some b) := by
  obtain ⟨D, ho, hi, hd⟩ := M
  obtain ⟨w', hrun, ho', hg⟩ := ho.update lawU ht hN (keyU hx) (elemI ha)
  refine ⟨w', hrun, ⟨D.put _ _, ho', hi.put _ _, fun y hy => ?_⟩, hg⟩
  show _ = DataW.lit (.int .i64 (if y = x then a else g y))
  by_cases e : y = x
  · subst e
    rw [if_pos rfl, atKey_put_same hi (lawU.key (keyU hx))]
  · rw [if_neg e, atKey_put_other (fun e' => e (by cases e'; rfl))]
    exact hd y hy
theorem wpList_mapU {T : TypeId} (ht : Try.prog.underlying T = some (.map 55 3)) (w : World) {ops : Array Oper} {rest : List Oper} {o : Oper} {a : Act} {Q : Exit → Act → World → Prop} (hg : o.guard = none) (m y v : Operand) (hop : o.op = Op.mapUpdate T m y v)
    (M : MapU w b N g) (hN : N < maxLen) (hx : 0 ≤ x ∧ x ≤ 18446744073709551615) {c : Int} (hc : -100000 ≤ c ∧ c ≤ 100000)
    (hm : a.eval m = .map (some b)) (hy : a.eval y = .int .u64 x) (hl : a.eval v = .int .i64 c)
    (hK : ∀ w', MapU w' b (N + 1) (fun y => if y = x then c else g y) → w.grownBy w' (some b) → wpList Try.prog ops Q rest (a.put o.dst undef) w') : wpList Try.prog ops Q (o :: rest) a w := by
  refine wpList_plain hg fun K' hK' => ?_
  obtain ⟨w', hrun, r1, r2⟩ := M.put ht hN hx hc
  unfold Oper.wp
  simp [execOp, hop, hm, hy, hl, hrun, Result.andThen]
  exact hK' _ _ (hK w' r1 r2)
end

/-- How many hands it holds. -/
def csO (g : Nat → Option Nat) : Nat → Nat
  | 0 => 0
  | n + 1 => csO g n + (if (g n).isSome = true then 1 else 0)
theorem cs_congr {g g' : Nat → Option Nat} : ∀ n, (∀ i, i < n → g i = g' i) → csO g n = csO g' n
  | 0, _ => rfl
  | n + 1, h => by
    show csO g n + _ = csO g' n + _
    rw [cs_congr n (fun i hi => h i (by omega)), h n (by omega)]
theorem cs_some (g : Nat → Option Nat) (h p : Nat) : ∀ n, h < n → csO (upd g h (some p)) n = if (g h).isSome = true then csO g n else csO g n + 1
  | 0, hh => absurd hh (Nat.not_lt_zero h)
  | n + 1, hh => by
    show csO (upd g h (some p)) n + (if (upd g h (some p) n).isSome = true then 1 else 0) = if (g h).isSome = true then csO g n + (if (g n).isSome = true then 1 else 0) else csO g n + (if (g n).isSome = true then 1 else 0) + 1
    by_cases e : h = n
    · subst e
      rw [upd_same, cs_congr (g' := g) h (fun i hi => upd_other _ _ (by omega))]
      cases (g h).isSome <;> simp
    · rw [upd_other _ _ (fun t => e t.symm), cs_some g h p n (by omega)]
      cases (g h).isSome <;> simp
      omega
theorem cs_none (g : Nat → Option Nat) (h : Nat) : ∀ n, h < n → csO (upd g h none) n + (if (g h).isSome = true then 1 else 0) = csO g n
  | 0, hh => absurd hh (Nat.not_lt_zero h)
  | n + 1, hh => by
    show csO (upd g h none) n + (if (upd g h none n).isSome = true then 1 else 0) + (if (g h).isSome = true then 1 else 0) = csO g n + (if (g n).isSome = true then 1 else 0)
    by_cases e : h = n
    · subst e
      rw [upd_same, cs_congr (g' := g) h (fun i hi => upd_other _ _ (by omega))]
      simp
    · have := cs_none g h n (by omega)
      rw [upd_other _ _ (fun t => e t.symm)]
      omega
theorem cs_zero {g : Nat → Option Nat} : ∀ n, (∀ i, i < n → g i = none) → csO g n = 0
  | 0, _ => rfl
  | n + 1, h => by
    show csO g n + _ = 0
    rw [cs_zero n (fun i hi => h i (by omega)), h n (by omega)]
    rfl
/-- Block b is a map that holds, of the hands below eight, those of which g tells a turn. -/
def MapO (w : World) (b N : Nat) (g : Nat → Option Nat) : Prop :=
  ∃ D : DataW Unit, w.ownsMap Try.prog 3 (plainElem Try.prog 55) b N D ∧ IsMap D ∧ (∀ h : Nat, h < 8 → Maps.has D (.int .i64 (h : Int)) = (g h).isSome) ∧ (∀ (h p : Nat), h < 8 → g h = some p → D.atKey (.int .i64 (h : Int)) (.lit (.int .u64 0)) = .lit (.int .u64 (p : Int))) ∧ Maps.size D = csO g 8
section
variable {w w' : World} {b N h p : Nat} {g : Nat → Option Nat}
theorem MapO.lt (M : MapO w b N g) : b < w.heap.size := by obtain ⟨D, ho, _⟩ := M; exact ho.lt
theorem MapO.block (M : MapO w b N g) (hb : w'.heap[b]? = w.heap[b]?) : MapO w' b N g := by
  obtain ⟨D, ⟨es, clock, h1, h2, h3, h4⟩, h5⟩ := M
  exact ⟨D, ⟨es, clock, hb.trans h1, h2, h3, h4⟩, h5⟩
theorem MapO.made (w : World) : MapO (w.alloc (.map #[] 0)) w.heap.size 0 (fun _ => none) :=
  ⟨.map [], World.ownsMap_made w Try.prog 3 _, isMap_empty, fun h _ => rfl, fun h p _ e => (by simp at e), (cs_zero 8 (fun _ _ => rfl)).symm⟩
theorem MapO.look {T : TypeId} (ht : Try.prog.underlying T = some (.map 3 55)) (M : MapO w b N g) (hh : h < 8) (e : g h = some p) : (Instr.lookup T (.map (some b)) (.int .i64 (h : Int)) true).run Try.prog w = .ok (.tuple #[.int .u64 (p : Int), .bool true]) w := by
  obtain ⟨D, ho, _, h1, h2, _⟩ := M
  obtain ⟨v, ps, hrun, hR⟩ := ho.look_ok lawI ht (zeroU w) (plainElem_int Try.underlying55 (by decide)) (keyI hh)
  obtain ⟨c, rfl, hc, hwc⟩ := plainElem_int_inv Try.underlying55 hR
  have a := h2 h p hh e
  simp only [Prod.mk.injEq] at hc
  rw [hc.1] at a
  cases a
  rw [h1 h hh, e] at hrun
  exact hrun
theorem MapO.put {T : TypeId} (ht : Try.prog.underlying T = some (.map 3 55)) (M : MapO w b N g) (hN : N < maxLen) (hh : h < 8) (hp : p ≤ 70000) :
    ∃ w', (Instr.mapUpdate T (.map (some b)) (.int .i64 (h : Int)) (.int .u64 (p : Int))).run Try.prog w = .ok () w' ∧ MapO w' b (N + 1) (upd g h (some p)) ∧ w.grownBy w' (some b) := by
  obtain ⟨D, ho, hi, h1, h2, h3⟩ := M
  obtain ⟨w', hrun, ho', hg⟩ := ho.update lawI ht hN (keyI hh) (elemU (a := (p : Int)) (by omega))
  have ne : ∀ k : Nat, k ≠ h → (Lit.int .i64 (k : Int)) ≠ .int .i64 (h : Int) := fun k e e' => e (by cases e'; rfl)
  refine ⟨w', hrun, ⟨D.put _ _, ho', hi.put _ _, fun k hk => ?_, fun k q hk e => ?_, ?_⟩, hg⟩
  · by_cases e : k = h
    · subst e
      rw [upd_same, has_put_same hi (lawI.key (keyI hh))]
      rfl
    · rw [upd_other _ _ e, has_put_other (ne k e)]
      exact h1 k hk
  · by_cases e' : k = h
    · subst e'
      rw [upd_same] at e
      cases e
      rw [atKey_put_same hi (lawI.key (keyI hh))]
    · rw [upd_other _ _ e'] at e
      rw [atKey_put_other (ne k e')]
      exact h2 k q hk e
  · rw [size_put (ho.tidy lawI), h1 h hh, cs_some g h p 8 hh, h3]
theorem MapO.del {T : TypeId} (ht : Try.prog.underlying T = some (.map 3 55)) (M : MapO w b N g) (hh : h < 8) (ty : TypeId) :
    ∃ w', (Builtin.delete_ #[T, 3] ty #[.map (some b), .int .i64 (h : Int)]).run Try.prog w = .ok (.tuple #[]) w' ∧ MapO w' b N (upd g h none) ∧ w.grownBy w' (some b) := by
  obtain ⟨D, ho, hi, h1, h2, h3⟩ := M
  obtain ⟨w', hrun, ho', hg⟩ := ho.drop lawI ht (keyI hh) ty
  have ne : ∀ k : Nat, k ≠ h → (Lit.int .i64 (k : Int)) ≠ .int .i64 (h : Int) := fun k e e' => e (by cases e'; rfl)
  refine ⟨w', hrun, ⟨D.del _, ho', ho'.isMap, fun k hk => ?_, fun k q hk e => ?_, ?_⟩, hg.grown⟩
  · by_cases e : k = h
    · subst e
      rw [upd_same, has_del_same]
      rfl
    · rw [upd_other _ _ e, has_del_other (ne k e)]
      exact h1 k hk
  · by_cases e' : k = h
    · subst e'
      rw [upd_same] at e
      cases e
    · rw [upd_other _ _ e'] at e
      rw [atKey_del_other (ne k e')]
      exact h2 k q hk e
  · have s := size_del (ho.tidy lawI) (k := .int .i64 (h : Int))
    rw [h1 h hh, h3] at s
    have c := cs_none g h 8 hh
    omega
theorem MapO.len0 {T : TypeId} (ht : Try.prog.underlying T = some (.map 3 55)) (M : MapO w b N g) (hn : ∀ h, h < 8 → g h = none) (ty : TypeId) : (Builtin.len_ #[T] ty #[.map (some b)]).run Try.prog w = .ok (.int .i64 0) w := by
  obtain ⟨D, ho, hi, h1, h2, h3⟩ := M
  have e0 : Maps.size D = 0 := h3.trans (cs_zero 8 hn)
  have := ho.len ht ty
  rw [e0] at this
  exact this
theorem wpList_putO {T : TypeId} (ht : Try.prog.underlying T = some (.map 3 55)) (w : World) {ops : Array Oper} {rest : List Oper} {o : Oper} {a : Act} {Q : Exit → Act → World → Prop} (hg : o.guard = none) (m y v : Operand) (hop : o.op = Op.mapUpdate T m y v)
    (M : MapO w b N g) (hN : N < maxLen) (hh : h < 8) (hp : p ≤ 70000)
    (hm : a.eval m = .map (some b)) (hy : a.eval y = .int .i64 (h : Int)) (hl : a.eval v = .int .u64 (p : Int))
    (hK : ∀ w', MapO w' b (N + 1) (upd g h (some p)) → w.grownBy w' (some b) → wpList Try.prog ops Q rest (a.put o.dst undef) w') : wpList Try.prog ops Q (o :: rest) a w := by
  refine wpList_plain hg fun K' hK' => ?_
  obtain ⟨w', hrun, r1, r2⟩ := M.put ht hN hh hp
  unfold Oper.wp
  simp [execOp, hop, hm, hy, hl, hrun, Result.andThen]
  exact hK' _ _ (hK w' r1 r2)
theorem wpList_delO {T : TypeId} (ht : Try.prog.underlying T = some (.map 3 55)) (w : World) {ops : Array Oper} {rest : List Oper} {o : Oper} {a : Act} {Q : Exit → Act → World → Prop} (hg : o.guard = none) (m y : Operand) (hop : o.op = Op.call { callee := Callee.builtin Builtin.delete, args := #[m, y], argTypes := #[T, 3] })
    (M : MapO w b N g) (hh : h < 8) (hm : a.eval m = .map (some b)) (hy : a.eval y = .int .i64 (h : Int))
    (hK : ∀ w', MapO w' b N (upd g h none) → w.grownBy w' (some b) → wpList Try.prog ops Q rest (a.put o.dst (.tuple #[])) w') : wpList Try.prog ops Q (o :: rest) a w := by
  refine wpList_plain hg fun K' hK' => ?_
  obtain ⟨w', hrun, r1, r2⟩ := M.del ht hh o.type
  unfold Oper.wp
  simp [execOp, hop, resolve, invoke, builtin, hm, hy, hrun, Result.andThen]
  exact hK' _ _ (hK w' r1 r2)
end
end Belt
end Go.Proofs.Ytchhkoalibapiaa

/-
  BeltOrder: is one list, each number as often, the other one?
-/
namespace Go.Proofs.Ytchhkoalibapiaa
open Go.RowKit Go.Maps
set_option linter.unusedVariables false
set_option linter.unusedSimpArgs false
set_option linter.unnecessarySimpa false
set_option maxRecDepth 20000
namespace Belt

theorem cnt_take {l : List Int} {k : Nat} {x : Int} (h : l[k]? = some x) (y : Int) : (((l.take (k + 1)).count y : Nat) : Int) = if y = x then (((l.take k).count x : Nat) : Int) + 1 else (((l.take k).count y : Nat) : Int) := by
  rw [List.take_add_one, h, List.count_append]
  by_cases e : y = x
  · subst e; simp
  · have : ([x] : List Int).count y = 0 := List.count_eq_zero.2 (by simpa using e)
    rw [if_neg e]
    simp [this]
theorem cnt_le (l : List Int) (k : Nat) (x : Int) : (l.take k).count x ≤ l.length := Nat.le_trans (List.count_le_length ..) (by simp; omega)
theorem cnt_in {a b : List Int} (hp : a.Perm b) {k : Nat} {x : Int} (h : b[k]? = some x) : (b.take k).count x + 1 ≤ a.count x := by
  have e := cnt_take h x
  rw [if_pos rfl] at e
  have l : (b.take (k + 1)).count x ≤ b.count x := (List.take_sublist _ _).count_le _
  rw [hp.count_eq]
  omega
theorem wr1 {c : Nat} (h : c ≤ 70000) : wrap64 ((c : Int) + 1) = (c : Int) + 1 := by unfold wrap64; omega
theorem wrm {c : Int} (h : -70000 ≤ c ∧ c ≤ 70001) : wrap64 (c - 1) = c - 1 := by unfold wrap64; omega

set_option maxHeartbeats 8000000 in
theorem among_ok {w : World} {A B : List Int} {alo blo : Option Addr} {acp bcp : Nat} (SA : LV w alo A acp) (SB : LV w blo B bcp) (hp : A.Perm B) (hA : A.length ≤ 70000) (hw : ∀ x, x ∈ A → 0 ≤ x ∧ x ≤ 18446744073709551615) :
    Calls Try.prog 18 #[.slice alo A.length acp, .slice blo B.length bcp] w fun e w' => e = .returned (.bool true) ∧ Below w.heap.size w w' := by
  have hL : B.length = A.length := hp.length_eq.symm
  have HSA := hide SA
  have HSB := hide SB
  have HP := hide hp
  have HW := hide hw
  rw [hL]
  obtain ⟨n, hn⟩ : ∃ n, A.length = n := ⟨_, rfl⟩
  rw [hn] at hA hL ⊢
  have HN := hide hn
  have HL := hide hL
  have hmm := @run_makeMap Try.prog
  have M0 := hide (MapU.made w)
  have B0 := hide (show Below w.heap.size w (w.alloc (.map #[] 0)) from (Below.refl _ w).alloc (Nat.le_refl _) _)
  clear SA SB hp hw hn hL
  go_enter Try.func18, Try.ntmps18
  go_wp2_with fail
  go_loopw [18] (fun v18 wr => ∃ k : Nat, k ≤ n ∧ v18 = .int .i64 (k : Int) ∧ MapU wr w.heap.size k (fun y => (((A.take k).count y : Nat) : Int)) ∧ Below w.heap.size w wr) (fun v18 _ => n - (intOf v18).toNat)
  case atStart => exact ⟨0, Nat.zero_le _, rfl, by simpa using M0.out, B0.out⟩
  case round =>
    obtain ⟨k, hk, rfl, hM, hb⟩ := hrel
    have HM := hide hM
    have HB := hide hb
    clear hM hb
    by_cases hlt : k < n
    · as_aux_lemma =>
      have hlt' : (k : Int) < n := by omega
      obtain ⟨x, hx⟩ : ∃ x, A[k]? = some x := ⟨_, List.getElem?_eq_getElem (by rw [HN.out]; exact hlt)⟩
      obtain ⟨b', off, rfl, lb, cb⟩ := (HSA.out.below HB.out).see k x hx
      have xw := HW.out x (List.mem_of_getElem? hx)
      have LK := HM.out.look (T := 73) Try.underlying73 xw
      obtain ⟨c, hc⟩ : ∃ c, (A.take k).count x = c := ⟨_, rfl⟩
      have hc1 : c ≤ 70000 := by rw [← hc]; exact Nat.le_trans (cnt_le A k x) (by rw [HN.out]; exact hA)
      simp only [hc] at LK
      have HCT := hide (fun y => cnt_take hx y)
      have W1 := wr1 hc1
      have HC := hide hc
      clear hc hx
      go_wp2_with (first | (at_mapUpdate; refine wpList_mapU Try.underlying73 _ rfl _ _ _ rfl HM.out (by unfold maxLen; omega) xw (c := (c : Int) + 1) (by omega) rfl rfl rfl ?_; intro w1 hm1 hg1; have M1 := hide hm1; have G1 := hide hg1; clear hm1 hg1) | go_in)
      go_roundw
      case rel =>
        refine ⟨k + 1, hlt, vi_b, ?_, ?_⟩
        · have e : (fun y => (((A.take (k + 1)).count y : Nat) : Int)) = (fun y => if y = x then (c : Int) + 1 else (((A.take k).count y : Nat) : Int)) := by
            funext y; rw [HCT.out y, HC.out]
          rw [e]
          exact M1.out
        · exact HB.out.grown G1.out HB.out.size (fun q hq => by cases hq; exact Nat.le_refl _)
      case measure => exact meas_b hlt
    · as_aux_lemma =>
      obtain rfl : k = n := by omega
      have e0 : A.take k = A := List.take_of_length_le (by rw [HN.out]; exact Nat.le_refl _)
      rw [e0] at HM
      clear e0
      go_wp2_with fail
      go_loopw [29] (fun v29 wr => ∃ j : Nat, j ≤ k ∧ v29 = .int .i64 (j : Int) ∧ MapU wr w.heap.size (k + j) (fun y => ((A.count y : Nat) : Int) - (((B.take j).count y : Nat) : Int)) ∧ Below w.heap.size w wr) (fun v29 _ => k - (intOf v29).toNat)
      case atStart => exact ⟨0, Nat.zero_le _, rfl, by simpa using HM.out, HB.out⟩
      case round =>
        clear HM HB M0 B0
        obtain ⟨j, hj, rfl, hM, hb⟩ := hrel
        have HM := hide hM
        have HB := hide hb
        clear hM hb
        by_cases hlj : j < k
        · as_aux_lemma =>
          have hlj' : (j : Int) < k := by omega
          obtain ⟨x, hx⟩ : ∃ x, B[j]? = some x := ⟨_, List.getElem?_eq_getElem (by rw [HL.out]; exact hlj)⟩
          obtain ⟨b', off, rfl, lb, cb⟩ := (HSB.out.below HB.out).see j x hx
          have xw := HW.out x (HP.out.mem_iff.2 (List.mem_of_getElem? hx))
          have LK := HM.out.look (T := 73) Try.underlying73 xw
          obtain ⟨c, hc⟩ : ∃ c : Int, ((A.count x : Nat) : Int) - (((B.take j).count x : Nat) : Int) = c := ⟨_, rfl⟩
          have hc1 : 1 ≤ c ∧ c ≤ 70000 := by
            have a := cnt_in HP.out hx
            have b : A.count x ≤ A.length := List.count_le_length ..
            rw [HN.out] at b
            omega
          simp only [hc] at LK
          have HCT := hide (fun y => cnt_take hx y)
          have W1 : wrap64 (c - 1) = c - 1 := wrm (by omega)
          have g0 : ¬ c - 1 < 0 := by omega
          have HC := hide hc
          clear hc hx
          go_wp2_with (first | (at_mapUpdate; refine wpList_mapU Try.underlying73 _ rfl _ _ _ rfl HM.out (by unfold maxLen; omega) xw (c := c - 1) (by omega) rfl rfl rfl ?_; intro w1 hm1 hg1; have M1 := hide hm1; have G1 := hide hg1; have LK2 := hm1.look (T := 73) Try.underlying73 xw; simp only [if_true] at LK2; clear hm1 hg1) | go_in)
          go_roundw
          case rel =>
            refine ⟨j + 1, hlj, vi_b, ?_, ?_⟩
            · have e : (fun y => ((A.count y : Nat) : Int) - (((B.take (j + 1)).count y : Nat) : Int)) = (fun y => if y = x then c - 1 else ((A.count y : Nat) : Int) - (((B.take j).count y : Nat) : Int)) := by
                funext y
                rw [HCT.out y]
                have := HC.out
                by_cases q : y = x
                · subst q; rw [if_pos rfl, if_pos rfl]; omega
                · rw [if_neg q, if_neg q]
              rw [e]
              exact M1.out
            · exact HB.out.grown G1.out HB.out.size (fun q hq => by cases hq; exact Nat.le_refl _)
          case measure => exact meas_b hlj
        · as_aux_lemma =>
          obtain rfl : j = k := by omega
          go_wp2_with fail
          go_ret
          exact ⟨rfl, HB.out⟩
end Belt
end Go.Proofs.Ytchhkoalibapiaa

/-
  Belt's reference: Size.
-/
namespace Go.Proofs.Ytchhkoalibapiaa
open Go.RowKit
set_option linter.unusedVariables false
set_option linter.unusedSimpArgs false
set_option linter.unnecessarySimpa false
set_option maxRecDepth 20000
namespace Belt

theorem rsize_ok (w : World) (sh : Shp) (h1 : 1 ≤ sh.f) (h2 : sh.f ≤ 64) : Calls Try.prog 15 #[sh.val] w fun e w' => e = .returned (.tuple #[.int .i64 (2 + 2 * sh.f), .int .i64 0]) ∧ w.grownBy w' none := by
  obtain ⟨s0, s1, s2, s3, s4, s5⟩ := sh
  simp only [Shp.val] at h1 h2 ⊢
  have g1 : ¬ s5 < 1 := by omega
  have g2 : ¬ 64 < s5 := by omega
  have g3 : wrap64 (2 * s5) = 2 * s5 := by unfold wrap64; omega
  have g4 : wrap64 (2 + 2 * s5) = 2 + 2 * s5 := by unfold wrap64; omega
  go_enter Try.func15, Try.ntmps15
  go_wp2
  go_ret2
  exact ⟨rfl, grown_alloc (grown_refl _ _) _⟩
theorem rsize_bad (w : World) (sh : Shp) (h : sh.f < 1 ∨ 64 < sh.f) : Calls Try.prog 15 #[sh.val] w fun e w' => e = .returned (.tuple #[.int .i64 0, .int .i64 120]) ∧ w.grownBy w' none := by
  obtain ⟨s0, s1, s2, s3, s4, s5⟩ := sh
  simp only [Shp.val] at h ⊢
  by_cases g1 : s5 < 1
  · go_enter Try.func15, Try.ntmps15
    go_wp2
    go_ret2
    exact ⟨rfl, grown_alloc (grown_refl _ _) _⟩
  · have g2 : 64 < s5 := by omega
    go_enter Try.func15, Try.ntmps15
    go_wp2
    go_ret2
    exact ⟨rfl, grown_alloc (grown_refl _ _) _⟩

end Belt
end Go.Proofs.Ytchhkoalibapiaa
