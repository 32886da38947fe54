/-
  Lemmas: SeqMp.
-/
import Derived.Test.YtkiojiibppdjjaaTw03
import Derived.Test.YtkiojiibppdjjaaTw04
import Derived.Maps.OwnOps
import Derived.Maps.Views
set_option linter.unusedVariables false
set_option linter.unusedSimpArgs false
set_option maxRecDepth 20000
namespace Go.Proofs.Ytkiojiibppdjjaa
open Go.RowKit Go.Maps
namespace Seq

def litV : Lit → Value
  | .int q a => .int q a
  | .bool x => .bool x
  | _ => undef

theorem law : Keyed Try.prog 3 := int_keyed Try.underlying3
theorem hkey {h : Nat} (hh : h < 8) : keyOf Try.prog 3 (.int .i64 (h : Int)) = some (.int .i64 (h : Int)) := keyOf_int_mk Try.underlying3 (by
  simp only [Lit.wf, IntKind.has, IntKind.min, IntKind.max, IntKind.signed, IntKind.bits]
  simp
  omega)

/-- Block b is a map that tells g of a hand's number. -/
def MapAt (E : TypeId) (z : Lit) (w : World) (b N : Nat) (g : Nat → Lit) : Prop :=
  ∃ D : DataW Unit, w.ownsMap Try.prog 3 (plainElem Try.prog E) b N D ∧ IsMap D ∧ ∀ h : Nat, h < 8 → D.atKey (.int .i64 (h : Int)) (.lit z) = .lit (g h)

section
variable {E T : TypeId} {z : Lit} {w w' : World} {b N h : Nat} {g : Nat → Lit}

theorem MapAt.lt (M : MapAt E z w b N g) : b < w.heap.size := by obtain ⟨D, ho, _⟩ := M; exact ho.lt
theorem MapAt.block (M : MapAt E z w b N g) (hb : w'.heap[b]? = w.heap[b]?) : MapAt E z w' b N g := by
  obtain ⟨D, ⟨es, clock, h1, h2, h3, h4⟩, h5, h6⟩ := M
  exact ⟨D, ⟨es, clock, hb.trans h1, h2, h3, h4⟩, h5, h6⟩
theorem MapAt.more (M : MapAt E z w b N g) {N' : Nat} (hn : N ≤ N') : MapAt E z w b N' g := by
  obtain ⟨D, ho, h5, h6⟩ := M
  exact ⟨D, ho.mono hn, h5, h6⟩
theorem MapAt.made (w : World) (E : TypeId) (z : Lit) : MapAt E z (w.alloc (.map #[] 0)) w.heap.size 0 (fun _ => z) :=
  ⟨.map [], World.ownsMap_made w Try.prog 3 _, isMap_empty, fun h _ => by simp [DataW.atKey]⟩

theorem bool_inv {e : TypeId} (he : Try.prog.underlying e = some .bool) {v : Value} {x : DataW Unit × List MemPlace} (h : plainElem Try.prog e v = some x) : ∃ a, v = .bool a ∧ x = (.lit (.bool a), []) := by
  unfold plainElem at h
  rw [he] at h
  cases v with
  | bool a => simp at h; exact ⟨a, rfl, h.symm⟩
  | _ => simp at h

theorem MapAt.lookI {q : IntKind} (M : MapAt E z w b N g) (ht : Try.prog.underlying T = some (.map 3 E)) (he : Try.prog.underlying E = some (.int q)) (hz0 : ∀ w : World, (zeroValue E).run Try.prog w = .ok (.int q 0) w) (hz : z = .int q 0) (hh : h < 8) {a : Int} (hg : g h = .int q a) : (Instr.lookup T (.map (some b)) (.int .i64 (h : Int)) false).run Try.prog w = .ok (.int q a) w := by
  obtain ⟨D, ho, _, hd⟩ := M
  obtain ⟨c, hrun, hat, _⟩ := ho.lookup_int law ht he (hz0 w) (hkey hh)
  have e := hd h hh
  rw [hz, hat, hg] at e
  cases e
  exact hrun
theorem MapAt.lookB (M : MapAt E z w b N g) (ht : Try.prog.underlying T = some (.map 3 E)) (he : Try.prog.underlying E = some .bool) (hz0 : ∀ w : World, (zeroValue E).run Try.prog w = .ok (.bool false) w) (hz : z = .bool false) (hh : h < 8) {a : Bool} (hg : g h = .bool a) : (Instr.lookup T (.map (some b)) (.int .i64 (h : Int)) false).run Try.prog w = .ok (.bool a) w := by
  obtain ⟨D, ho, _, hd⟩ := M
  obtain ⟨v, ps, hrun, hR⟩ := ho.lookup law ht (hz0 w) (plainElem_bool he false) (hkey hh)
  obtain ⟨c, rfl, hc⟩ := bool_inv he hR
  have e := hd h hh
  simp only [Prod.mk.injEq] at hc
  rw [hz, hc.1, hg] at e
  cases e
  exact hrun

theorem MapAt.put (M : MapAt E z w b N g) (ht : Try.prog.underlying T = some (.map 3 E)) (hN : N < maxLen) (hh : h < 8) {l : Lit} (hv : plainElem (H := Unit) Try.prog E (litV l) = some (.lit l, [])) :
    ∃ w', (Instr.mapUpdate T (.map (some b)) (.int .i64 (h : Int)) (litV l)).run Try.prog w = .ok () w' ∧ MapAt E z w' b (N + 1) (upd g h l) ∧ w.grownBy w' (some b) := by
  obtain ⟨D, ho, hi, hd⟩ := M
  obtain ⟨w', hrun, ho', hg⟩ := ho.update law ht hN (hkey hh) hv
  refine ⟨w', hrun, ⟨D.put _ _, ho', hi.put _ _, fun k hk => ?_⟩, hg⟩
  by_cases e : k = h
  · subst e
    rw [upd_same, atKey_put_same hi (law.key (hkey hh))]
  · rw [upd_other _ _ e, atKey_put_other (fun e' => e (by cases e'; rfl))]
    exact hd k hk
/-- A store into such a map, at the operation. -/
theorem wpList_mapset (w : World) {ops : Array Oper} {rest : List Oper} {o : Oper} {a : Act} {Q : Exit → Act → World → Prop} (hg : o.guard = none) (m x v : Operand) (hop : o.op = Op.mapUpdate T m x v)
    (M : MapAt E z w b N g) (ht : Try.prog.underlying T = some (.map 3 E)) (hN : N < maxLen) (hh : h < 8) (l : Lit) (hv : plainElem (H := Unit) Try.prog E (litV l) = some (.lit l, []))
    (hm : a.eval m = .map (some b)) (hx : a.eval x = .int .i64 (h : Int)) (hl : a.eval v = litV l)
    (hK : ∀ w', MapAt E z w' b (N + 1) (upd g h l) → w.grownBy w' (some b) → wpList Try.prog ops Q rest (a.put o.dst undef) w') : wpList Try.prog ops Q (o :: rest) a w := by
  refine wpList_plain hg fun K' hK' => ?_
  obtain ⟨w', hrun, r1, r2⟩ := M.put ht hN hh hv
  unfold Oper.wp
  simp [execOp, hop, hm, hx, hl, hrun, Result.andThen]
  exact hK' _ _ (hK w' r1 r2)
theorem wp_mapset {w : World} {o : Oper} {a : Act} {K : Act → World → Prop} {Q : Exit → Act → World → Prop} {m x v : Operand} (hop : o.op = Op.mapUpdate T m x v)
    (M : MapAt E z w b N g) (ht : Try.prog.underlying T = some (.map 3 E)) (hN : N < maxLen) (hh : h < 8) (l : Lit) (hv : plainElem (H := Unit) Try.prog E (litV l) = some (.lit l, []))
    (hm : a.eval m = .map (some b)) (hx : a.eval x = .int .i64 (h : Int)) (hl : a.eval v = litV l)
    (hK : ∀ w', MapAt E z w' b (N + 1) (upd g h l) → w.grownBy w' (some b) → K (a.put o.dst undef) w') : o.wp Try.prog a w K Q := by
  obtain ⟨w', hrun, r1, r2⟩ := M.put ht hN hh hv
  unfold Oper.wp
  simp [execOp, hop, hm, hx, hl, hrun, Result.andThen]
  exact hK w' r1 r2
end

theorem zeroI (w : World) : (zeroValue 3).run Try.prog w = .ok (.int .i64 0) w := by kernel_rfl
theorem zeroU (w : World) : (zeroValue 47).run Try.prog w = .ok (.int .u64 0) w := by kernel_rfl
theorem zeroB (w : World) : (zeroValue 4).run Try.prog w = .ok (.bool false) w := by kernel_rfl
theorem elemI {a : Int} (h0 : 0 ≤ a) (h1 : a ≤ 65) : plainElem (H := Unit) Try.prog 3 (litV (.int .i64 a)) = some (.lit (.int .i64 a), []) := plainElem_int Try.underlying3 (by
  simp only [Lit.wf, IntKind.has, IntKind.min, IntKind.max, IntKind.signed, IntKind.bits]
  simp
  omega)
theorem elemU {a : Int} (h0 : 0 ≤ a ∧ a ≤ 18446744073709551615) : plainElem (H := Unit) Try.prog 47 (litV (.int .u64 a)) = some (.lit (.int .u64 a), []) := plainElem_int Try.underlying47 (by
  simp only [Lit.wf, IntKind.has, IntKind.min, IntKind.max, IntKind.signed, IntKind.bits]
  simp
  omega)
theorem elemB (a : Bool) : plainElem (H := Unit) Try.prog 4 (litV (.bool a)) = some (.lit (.bool a), []) := plainElem_bool Try.underlying4 a

/-- 'first[i], began[i], loads[i] = ..': the three maps while the stores are drawn. -/
structure MM (W : World) (bF bB bL N h : Nat) (fst ld : Nat → Int) (bg : Nat → Bool) (xd : Int) (ev : Bool) (l12 l13 l14 : Bool) (w : World) : Prop where
  tch : Touch W w (fun k => k = bF ∨ k = bB ∨ k = bL)
  f : MapAt 47 (.int .u64 0) w bF (if l12 = true then N + 1 else N) (fun k => .int .u64 ((if l12 = true then upd fst h xd else fst) k))
  b : MapAt 4 (.bool false) w bB (if l13 = true then N + 1 else N) (fun k => .bool ((if l13 = true then upd bg h ev else bg) k))
  l : MapAt 3 (.int .i64 0) w bL (if l14 = true then N + 1 else N) (fun k => .int .i64 ((if l14 = true then upd ld h 0 else ld) k))
section
variable {W w w' : World} {bF bB bL N h : Nat} {fst ld : Nat → Int} {bg : Nat → Bool} {xd : Int} {ev l12 l13 l14 : Bool}
theorem upd_lit {α : Type} (c : α → Lit) (g : Nat → α) (h : Nat) (v : α) : upd (fun k => c (g k)) h (c v) = fun k => c (upd g h v k) := by
  funext k
  by_cases e : k = h
  · subst e; rw [upd_same, upd_same]
  · rw [upd_other _ _ e, upd_other _ _ e]
theorem MM.start (f : MapAt 47 (.int .u64 0) W bF N (fun k => .int .u64 (fst k))) (b : MapAt 4 (.bool false) W bB N (fun k => .bool (bg k))) (l : MapAt 3 (.int .i64 0) W bL N (fun k => .int .i64 (ld k))) : MM W bF bB bL N h fst ld bg xd ev false false false { W with drawn := W.drawn + 1 } :=
  ⟨⟨rfl, rfl, rfl, Nat.le_refl _, fun _ _ _ => rfl⟩, f.block rfl, b.block rfl, l.block rfl⟩
theorem touch_grown {S : Nat → Prop} {b : Nat} (T : Touch W w S) (g : w.grownBy w' (some b)) (hb : S b) : Touch W w' S :=
  T.trans' (Touch.of_grown g) (fun k _ e => (show k = b from by simpa using e) ▸ hb)
theorem MM.putF (M : MM W bF bB bL N h fst ld bg xd ev l12 l13 l14 w) (h12 : l12 = false) (d1 : bF ≠ bB) (d2 : bF ≠ bL) (m : MapAt 47 (.int .u64 0) w' bF (N + 1) (upd (fun k => .int .u64 (fst k)) h (.int .u64 xd))) (g : w.grownBy w' (some bF)) : MM W bF bB bL N h fst ld bg xd ev true l13 l14 w' := by
  subst h12
  exact ⟨touch_grown M.tch g (.inl rfl), by rw [upd_lit (Lit.int .u64)] at m; simpa using m, M.b.block (g.block bB M.b.lt (by simpa using Ne.symm d1)), M.l.block (g.block bL M.l.lt (by simpa using Ne.symm d2))⟩
theorem MM.putB (M : MM W bF bB bL N h fst ld bg xd ev l12 l13 l14 w) (h13 : l13 = false) (d1 : bF ≠ bB) (d3 : bB ≠ bL) (m : MapAt 4 (.bool false) w' bB (N + 1) (upd (fun k => .bool (bg k)) h (.bool ev))) (g : w.grownBy w' (some bB)) : MM W bF bB bL N h fst ld bg xd ev l12 true l14 w' := by
  subst h13
  exact ⟨touch_grown M.tch g (.inr (.inl rfl)), M.f.block (g.block bF M.f.lt (by simpa using d1)), by rw [upd_lit Lit.bool] at m; simpa using m, M.l.block (g.block bL M.l.lt (by simpa using Ne.symm d3))⟩
theorem MM.putL (M : MM W bF bB bL N h fst ld bg xd ev l12 l13 l14 w) (h14 : l14 = false) (d2 : bF ≠ bL) (d3 : bB ≠ bL) (m : MapAt 3 (.int .i64 0) w' bL (N + 1) (upd (fun k => .int .i64 (ld k)) h (.int .i64 0))) (g : w.grownBy w' (some bL)) : MM W bF bB bL N h fst ld bg xd ev l12 l13 true w' := by
  subst h14
  exact ⟨touch_grown M.tch g (.inr (.inr rfl)), M.f.block (g.block bF M.f.lt (by simpa using d2)), M.b.block (g.block bB M.b.lt (by simpa using d3)), by rw [upd_lit (Lit.int .i64)] at m; simpa using m⟩
theorem MM.skip {L : Nat → Bool} {i : Nat} (n1 : 12 ≠ i) (n2 : 13 ≠ i) (n3 : 14 ≠ i) (M : MM W bF bB bL N h fst ld bg xd ev (L 12) (L 13) (L 14) w) : MM W bF bB bL N h fst ld bg xd ev (upd L i true 12) (upd L i true 13) (upd L i true 14) w := by
  rwa [upd_other _ _ n1, upd_other _ _ n2, upd_other _ _ n3]
end
end Seq
end Go.Proofs.Ytkiojiibppdjjaa
