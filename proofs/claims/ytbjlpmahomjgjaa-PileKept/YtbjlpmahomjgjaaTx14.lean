/-
  Lemmas: PileKC.
-/
import Derived.Test.YtbjlpmahomjgjaaTx13
set_option linter.unusedVariables false
set_option linter.unusedSimpArgs false
set_option maxRecDepth 20000
namespace Go.Proofs.Ytbjlpmahomjgjaa
open Go.RowKit
namespace PKept

/-- Those of the first k that are picked. -/
def sel (g : Nat → Bool) (x : Nat → Int) : Nat → List Int
  | 0 => []
  | k + 1 => if g k = true then sel g x k ++ [x k] else sel g x k
def sel2 (g : Nat → Nat → Bool) (x : Nat → Nat → Int) (jn : Nat → Nat) : Nat → List Int
  | 0 => []
  | h + 1 => sel2 g x jn h ++ sel (g h) (x h) (jn h)
theorem sel_len (g : Nat → Bool) (x : Nat → Int) : ∀ k, (sel g x k).length ≤ k
  | 0 => Nat.le_refl _
  | k + 1 => by
    have := sel_len g x k
    unfold sel
    split
    · simp; omega
    · omega
theorem sel2_len (g : Nat → Nat → Bool) (x : Nat → Nat → Int) (jn : Nat → Nat) : ∀ h, (∀ i, i < h → jn i ≤ 256) → (sel2 g x jn h).length ≤ 256 * h
  | 0, _ => Nat.le_refl _
  | h + 1, hj => by
    have h1 := sel2_len g x jn h (fun i hi => hj i (by omega))
    have h2 := sel_len (g h) (x h) (jn h)
    have h3 := hj h (by omega)
    unfold sel2
    rw [List.length_append]
    omega
theorem sel_le (g : Nat → Bool) (x : Nat → Int) (v : Int) (k : Nat) : ∀ d, (sel g x k).count v ≤ (sel g x (k + d)).count v
  | 0 => Nat.le_refl _
  | d + 1 => by
    refine Nat.le_trans (sel_le g x v k d) ?_
    show _ ≤ (sel g x (k + d + 1)).count v
    rw [sel]
    split
    · rw [List.count_append]; omega
    · exact Nat.le_refl _
theorem sel2_le (g : Nat → Nat → Bool) (x : Nat → Nat → Int) (jn : Nat → Nat) (v : Int) (h : Nat) : ∀ d, (sel2 g x jn h).count v ≤ (sel2 g x jn (h + d)).count v
  | 0 => Nat.le_refl _
  | d + 1 => by
    refine Nat.le_trans (sel2_le g x jn v h d) ?_
    show _ ≤ (sel2 g x jn (h + d + 1)).count v
    rw [sel2, List.count_append]
    omega
/-- The one that is picked now is among all that are picked. -/
theorem sel2_now {g : Nat → Nat → Bool} {x : Nat → Nat → Int} {jn : Nat → Nat} {nh h k : Nat} (hh : h < nh) (hk : k < jn h) (hg : g h k = true) : (sel2 g x jn h).count (x h k) + (sel (g h) (x h) k).count (x h k) + 1 ≤ (sel2 g x jn nh).count (x h k) := by
  obtain ⟨d, rfl⟩ : ∃ d, nh = h + 1 + d := ⟨nh - (h + 1), by omega⟩
  refine Nat.le_trans ?_ (sel2_le g x jn (x h k) (h + 1) d)
  rw [sel2, List.count_append]
  obtain ⟨e, he⟩ : ∃ e, jn h = k + 1 + e := ⟨jn h - (k + 1), by omega⟩
  rw [he]
  have := sel_le (g h) (x h) (x h k) (k + 1) e
  rw [show (sel (g h) (x h) (k + 1)) = sel (g h) (x h) k ++ [x h k] from if_pos hg, List.count_append] at this
  simp at this
  omega
theorem same_len {a b : List Int} (h : ∀ v, a.count v = b.count v) : a.length = b.length := (List.perm_iff_count.2 h).length_eq
theorem took_count {L L1 : List Int} {x : Int} (h : (L1 ++ [x]).Perm L) (v : Int) : L1.count v + [x].count v = L.count v := by
  rw [← List.count_append]
  exact h.count_eq v
theorem took_len {L L1 : List Int} {x : Int} (h : (L1 ++ [x]).Perm L) : L1.length + 1 = L.length := by
  have := h.length_eq
  simpa using this

/-- append at an operation, the appended whatever slice: nil, empty or not. -/
theorem wp_append_opt {P : Program} {w : World} {o : Oper} {a : Act} {K : Act → World → Prop} {Q : Exit → Act → World → Prop} (s x : Operand) (t : TypeId)
    (ho : o.op = .call { callee := .builtin .append, args := #[s, x], argTypes := #[t, t] })
    (base : Nat) (e : TypeId) (i : TypeInfo) (z : Value) (size bytes : Nat) (ht : P.underlying t = some (.slice e)) (hi : P.info? e = some i) (hz : i.zero = some z)
    (hsize : i.size = size) (hby : i.bytes = bytes) (hzs : z.cells.size = size) (hsz : 0 < size)
    (v : Value) (n : Nat) (xs : List Value) (hs : a.eval s = v) (hown : w.ownsRow base e size v n xs)
    (ao : Option Addr) (m c : Nat) (news : List Value) (hx : a.eval x = .slice ao m c) (hnil : ao = none → m = 0 ∧ c = 0) (hl : news.length = m * size) (hnews : ∀ ad, ao = some ad → ∀ j u, news[j]? = some u → w.cell? (ad.add j) = some u) (h1 : ∀ u ∈ news, u.oneCell' = true)
    (h63 : n + m ≤ maxLen) (hbytes : (n + m) * bytes ≤ 140737488355328) (hbase : base ≤ w.heap.size)
    (h : ∀ v' w', w'.ownsRow base e size v' (n + m) (xs ++ news) → w.grownBy w' v.ownBlock → K (a.put o.dst v') w') : o.wp P a w K Q := by
  cases ao with
  | none =>
    obtain ⟨rfl, rfl⟩ := hnil rfl
    have hn : news = [] := by simpa using hl
    subst hn
    have hrun := run_append_owned_none (P := P) (w := w) base t o.type e i size ht hi v n xs hown
    unfold Oper.wp
    simp [execOp, ho, resolve, invoke, builtin, hs, hx, hrun, Result.andThen]
    exact h v w (by simpa using hown) ⟨rfl, rfl, rfl, Nat.le_refl _, fun _ _ _ => rfl⟩
  | some ad =>
    obtain ⟨v', w', hr, h2, h3, _, _⟩ := run_append_own_at (P := P) w base t o.type e i z size bytes ht hi hz hsize hby hzs hsz v n xs hown ad m c news hl (hnews ad rfl) h1 h63 hbytes hbase
    unfold Oper.wp execOp
    simp only [ho, resolve, invoke, builtin, Sem.run_bind, Sem.run_pure, Result.andThen_ok, List.map_toArray, List.map_cons, List.map_nil, hs, hx, hr]
    exact h v' w' h2 h3

theorem owns_keep {w w' : World} {base : Nat} {e : TypeId} {size : Nat} {v : Value} {n : Nat} {xs : List Value} (h : w.ownsRow base e size v n xs) (hk : ∀ b, v.ownBlock = some b → b < w.heap.size → w'.heap[b]? = w.heap[b]?) : w'.ownsRow base e size v n xs := by
  obtain ⟨hl, h | ⟨g, cap, cur, rfl, hb, hg, hc, hm, hs, ht⟩⟩ := h
  · exact ⟨hl, .inl h⟩
  · refine ⟨hl, .inr ⟨g, cap, cur, rfl, hb, ?_, hc, hm, hs, ht⟩⟩
    rw [hk g (by simp [Value.ownBlock]) ?_]
    · exact hg
    · rcases Nat.lt_or_ge g w.heap.size with l | l
      · exact l
      · rw [Array.getElem?_eq_none l] at hg
        cases hg

/-- 'append(append([]int{}, lying...), along(..)...)': L0: the empty one is built; L2: lying is appended; L8: along is called; L9: its list is appended; L10: it is told. -/
structure AA (W : World) (l0 l1 : List Nat) (L0 L2 L8 L9 L10 : Bool) (s41 s43 s49 s50 s11 : Value) (w : World) : Prop where
  bel : Below W.heap.size W w
  d0 : L2 = true → L0 = true
  d1 : L9 = true → L2 = true ∧ L8 = true
  d2 : L10 = true → L9 = true
  a : L0 = true → L2 = false → w.ownsRow W.heap.size 3 1 s41 0 []
  b : L2 = true → L9 = false → w.ownsRow W.heap.size 3 1 s43 l0.length (pc l0)
  c : L8 = true → L9 = false → w.ownsRow W.heap.size 3 1 s49 l1.length (pc l1)
  n : L0 = true → L2 = false → L8 = true → ∀ g, s41.ownBlock = some g → s49.ownBlock ≠ some g
  e : L9 = true → w.ownsRow W.heap.size 3 1 s50 (l0.length + l1.length) (pc l0 ++ pc l1)
  f : L10 = true → s11 = s50

section
variable {W w w' : World} {l0 l1 : List Nat} {L0 L2 L8 L9 L10 : Bool} {s41 s43 s49 s50 s11 : Value}
theorem AA.start : AA W l0 l1 false false false false false s41 s43 s49 s50 s11 { W with drawn := W.drawn + 1 } :=
  ⟨⟨rfl, rfl, rfl, Nat.le_refl _, fun _ _ => rfl⟩, fun h => (by cases h), fun h => (by cases h), fun h => (by cases h), fun h => (by cases h), fun h => (by cases h), fun h => (by cases h), fun h => (by cases h), fun h => (by cases h), fun h => (by cases h)⟩
theorem AA.no9 (h : AA W l0 l1 L0 L2 L8 L9 L10 s41 s43 s49 s50 s11 w) (hL : L2 = false ∨ L8 = false) : L9 = false := by
  cases e : L9 with
  | false => rfl
  | true =>
    obtain ⟨a, b⟩ := h.d1 e
    rcases hL with hL | hL
    · rw [a] at hL; cases hL
    · rw [b] at hL; cases hL
theorem AA.build (h : AA W l0 l1 L0 L2 L8 L9 L10 s41 s43 s49 s50 s11 w) (hL : L0 = false) : AA W l0 l1 true L2 L8 L9 L10 (.slice (some ⟨w.heap.size, 0, none⟩) 0 0) s43 s49 s50 s11 (w.alloc (.cells #[] 3)) := by
  have h2 : L2 = false := by
    cases e : L2 with
    | false => rfl
    | true => have := h.d0 e; rw [hL] at this; cases this
  have h9 := h.no9 (.inl h2)
  have B : Below w.heap.size w (w.alloc (.cells #[] 3)) := (Below.refl _ w).alloc (Nat.le_refl _) _
  subst h2 h9
  refine ⟨h.bel.alloc h.bel.size _, fun h => (by cases h), fun h => (by cases h), h.d2, fun _ _ => ?_, fun h => (by cases h), fun h8 _ => (h.c h8 rfl).alloc _, fun _ _ h8 g hg he => ?_, fun h => (by cases h), fun h10 => absurd (h.d2 h10) (by decide)⟩
  · exact ⟨rfl, .inr ⟨w.heap.size, 0, #[], rfl, h.bel.size, by show (w.heap.push _)[w.heap.size]? = _; simp, Nat.le_refl _, by decide, rfl, rfl⟩⟩
  · have h1 := ((h.c h8 rfl).lt g he).2
    have h2 : w.heap.size = g := by simpa [Value.ownBlock] using hg
    omega
theorem AA.called (h : AA W l0 l1 L0 L2 L8 L9 L10 s41 s43 s49 s50 s11 w) (hL : L8 = false) (hb : Below w.heap.size w w') {v : Value} (hv : w'.ownsRow w.heap.size 3 1 v l1.length (pc l1)) : AA W l0 l1 L0 L2 true L9 L10 s41 s43 v s50 s11 w' := by
  have h9 := h.no9 (.inr hL)
  subst h9
  have keep : ∀ {u : Value} {n : Nat} {xs : List Value}, w.ownsRow W.heap.size 3 1 u n xs → w'.ownsRow W.heap.size 3 1 u n xs := fun ho => owns_keep ho (fun b _ hlt => hb.block b hlt)
  refine ⟨h.bel.trans (hb.mono h.bel.size), h.d0, fun h => (by cases h), h.d2, fun a b => keep (h.a a b), fun a b => keep (h.b a b), fun _ _ => ?_, fun a b _ g hg he => ?_, fun h => (by cases h), fun h10 => absurd (h.d2 h10) (by decide)⟩
  · obtain ⟨hl, ⟨rfl, e⟩ | ⟨g, cap, cur, rfl, hg, r⟩⟩ := hv
    · exact ⟨hl, .inl ⟨rfl, e⟩⟩
    · exact ⟨hl, .inr ⟨g, cap, cur, rfl, Nat.le_trans h.bel.size hg, r⟩⟩
  · have h1 := ((h.a a b).lt g hg).2
    have h2 := (hv.lt g he).1
    omega
end
section
variable {W w w' : World} {l0 l1 : List Nat} {L0 L2 L8 L9 L10 : Bool} {s41 s43 s49 s50 s11 : Value}
theorem AA.skip {L : Nat → Bool} {i : Nat} (n0 : 0 ≠ i) (n2 : 2 ≠ i) (n8 : 8 ≠ i) (n9 : 9 ≠ i) (n10 : 10 ≠ i) (h : AA W l0 l1 (L 0) (L 2) (L 8) (L 9) (L 10) s41 s43 s49 s50 s11 w) : AA W l0 l1 (upd L i true 0) (upd L i true 2) (upd L i true 8) (upd L i true 9) (upd L i true 10) s41 s43 s49 s50 s11 w := by
  rwa [upd_other _ _ n0, upd_other _ _ n2, upd_other _ _ n8, upd_other _ _ n9, upd_other _ _ n10]
theorem AA.app1 (h : AA W l0 l1 L0 L2 L8 L9 L10 s41 s43 s49 s50 s11 w) (hL : L2 = false) (h0 : L0 = true) {v : Value} (own : w'.ownsRow W.heap.size 3 1 v (0 + l0.length) ([] ++ pc l0)) (gr : w.grownBy w' s41.ownBlock) : AA W l0 l1 L0 true L8 L9 L10 s41 v s49 s50 s11 w' := by
  have h9 := h.no9 (.inl hL)
  subst h9 hL
  rw [Nat.zero_add, List.nil_append] at own
  have ha := h.a h0 rfl
  refine ⟨⟨gr.os.trans h.bel.os, gr.tape.trans h.bel.tape, gr.output.trans h.bel.output, Nat.le_trans h.bel.size gr.size, fun k hk => (gr.block k (Nat.lt_of_lt_of_le hk h.bel.size) (fun e => by have := (ha.lt k e.symm).1; omega)).trans (h.bel.block k hk)⟩, fun _ => h0, fun h => (by cases h), h.d2, fun _ h => (by cases h), fun _ _ => own, fun h8 _ => ?_, fun _ h => (by cases h), fun h => (by cases h), fun h10 => absurd (h.d2 h10) (by decide)⟩
  exact owns_keep (h.c h8 rfl) (fun g hg hlt => gr.block g hlt (fun e => h.n h0 rfl h8 g e.symm hg))
theorem AA.app2 (h : AA W l0 l1 L0 L2 L8 L9 L10 s41 s43 s49 s50 s11 w) (hL : L9 = false) (h2 : L2 = true) (h8 : L8 = true) {v : Value} (own : w'.ownsRow W.heap.size 3 1 v (l0.length + l1.length) (pc l0 ++ pc l1)) (gr : w.grownBy w' s43.ownBlock) : AA W l0 l1 L0 L2 L8 true L10 s41 s43 s49 v s11 w' := by
  subst hL h2 h8
  have hb := h.b rfl rfl
  refine ⟨⟨gr.os.trans h.bel.os, gr.tape.trans h.bel.tape, gr.output.trans h.bel.output, Nat.le_trans h.bel.size gr.size, fun k hk => (gr.block k (Nat.lt_of_lt_of_le hk h.bel.size) (fun e => by have := (hb.lt k e.symm).1; omega)).trans (h.bel.block k hk)⟩, h.d0, fun _ => ⟨rfl, rfl⟩, fun _ => rfl, fun _ h => (by cases h), fun _ h => (by cases h), fun _ h => (by cases h), fun _ h => (by cases h), fun _ => own, fun h10 => absurd (h.d2 h10) (by decide)⟩
theorem AA.told (h : AA W l0 l1 L0 L2 L8 L9 L10 s41 s43 s49 s50 s11 w) (h9 : L9 = true) : AA W l0 l1 L0 L2 L8 L9 true s41 s43 s49 s50 s50 w :=
  ⟨h.bel, h.d0, h.d1, fun _ => h9, h.a, h.b, h.c, h.n, h.e, fun _ => rfl⟩
/-- What a row of one's own tells to one that appends it. -/
theorem own_news {B : Nat} {ao : Option Addr} {n cp : Nat} {xs : List Value} {e : TypeId} (h : w.ownsRow B e 1 (.slice ao n cp) n xs) : (ao = none → n = 0 ∧ cp = 0) ∧ xs.length = n * 1 ∧ ∀ ad, ao = some ad → ∀ j u, xs[j]? = some u → w.cell? (ad.add j) = some u := by
  refine ⟨fun e0 => ?_, h.1, fun ad e0 j u hj => ?_⟩
  · obtain ⟨hl, ⟨e1, e2⟩ | ⟨g, cap, cur, e1, _⟩⟩ := h
    · cases e1; exact ⟨rfl, rfl⟩
    · rw [e0] at e1; cases e1
  · have hjl := (List.getElem?_eq_some_iff.1 hj).1
    have hl := h.1
    obtain ⟨g, cap, F, e1, hb, R, hp, hc, _⟩ := row_of_owns h (by omega)
    rw [e0] at e1
    cases e1
    rw [Go.WideShapes.add_plain, Nat.zero_add, R.cell (i := j) (by omega)]
    exact congrArg some (hp j u hj)
end
theorem pc_one (l : List Nat) : ∀ u, u ∈ pc l → u.oneCell' = true := fun u hu => by
  obtain ⟨q, _, rfl⟩ := List.mem_map.1 hu
  rfl
theorem ex_bslice0 {ev : Operand → Value} {o : Oper} {w : World} (ho : o.op = .buildSlice 26 0 #[]) : (execOp ev o).run Try.prog w = .ok (.value (.slice (some ⟨w.heap.size, 0, none⟩) 0 0)) (w.alloc (.cells #[] 3)) := by
  simp [execOp, ho, go_sem]
end PKept
end Go.Proofs.Ytbjlpmahomjgjaa
