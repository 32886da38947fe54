/-
  Small laws for the walk of WordHeads: an append from a slice that may be nil; what an owned row reads as.
-/
import Derived.Test.YtjonllmhgpfndaaRows
import Derived.WalkKit
import Derived.WalkSpells
import Derived.WalkLawsBesides
import Derived.Laws.AppendOwnNone
namespace Go.Proofs.Ytjonllmhgpfndaa
open Go.RowKit
set_option linter.unusedVariables false

theorem hide {p : Prop} (h : p) : Hid p := h
theorem unhide {p : Prop} (h : Hid p) : p := h

/-- 'append(v, xs...)', v the call's own, xs whatever slice: nil, empty or not. -/
theorem wpList_append_opt {P : Program} {w : World} {ops : Array Oper} {rest : List Oper} {o : Oper} {a : Act} {Q : Exit → Act → World → Prop} (hgd : o.guard = none) (s x : Operand) (t : TypeId)
    (ho : o.op = .call { callee := .builtin .append, args := #[s, x], argTypes := #[t, t] })
    (base : Nat) (e : TypeId) (i : TypeInfo) (z : Value) (size bytes : Nat) (ht : P.underlying t = some (.slice e)) (hi : P.info? e = some i) (hz : i.zero = some z)
    (hsize : i.size = size) (hby : i.bytes = bytes) (hzs : z.cells.size = size) (hsz : 0 < size)
    (v : Value) (n : Nat) (xs : List Value) (hs : a.eval s = v) (hown : w.ownsRow base e size v n xs)
    (ao : Option Addr) (m c : Nat) (news : List Value) (hx : a.eval x = .slice ao m c) (hnil : ao = none → m = 0 ∧ c = 0) (hl : news.length = m * size) (hnews : ∀ ad, ao = some ad → ∀ j u, news[j]? = some u → w.cell? (ad.add j) = some u) (h1 : ∀ u ∈ news, u.oneCell' = true)
    (h63 : n + m ≤ maxLen) (hbytes : (n + m) * bytes ≤ 140737488355328) (hbase : base ≤ w.heap.size)
    (h : ∀ v' w', w'.ownsRow base e size v' (n + m) (xs ++ news) → w.grownBy w' v.ownBlock → wpList P ops Q rest (a.put o.dst v') w') : wpList P ops Q (o :: rest) a w := by
  cases ao with
  | none =>
    obtain ⟨rfl, rfl⟩ := hnil rfl
    have hn : news = [] := by simpa using hl
    subst hn
    refine wpList_append_own_none hgd s x t ho base e i size ht hi v n xs hs hown hx (h v w (by simpa using hown) ⟨rfl, rfl, rfl, Nat.le_refl _, fun _ _ _ => rfl⟩)
  | some ad =>
    exact wpList_append_own w hgd s x t ho base e i z size bytes ht hi hz hsize hby hzs hsz v n xs hs hown ad m c news hx hl (hnews ad rfl) h1 h63 hbytes hbase fun v' w' h2 h3 _ => h v' w' h2 h3

/-- A row that is owned and holds something lies in a block of the call's own; its cells, read one by one. -/
theorem owned_cells {w : World} {base : Nat} {e : TypeId} {v : Value} {n : Nat} {xs : List Value} (h : w.ownsRow base e 1 v n xs) (hn : 0 < n) :
    ∃ g cap, v = .slice (some ⟨g, 0, none⟩) n cap ∧ base ≤ g ∧ g < w.heap.size ∧ n ≤ cap ∧ cap ≤ maxLen ∧ ∀ j, j < n → w.cell? ⟨g, j, none⟩ = xs[j]? := by
  obtain ⟨hl, h | ⟨g, cap, cur, rfl, hb, hg, hc, hm, hsz, ht⟩⟩ := h
  · omega
  · refine ⟨g, cap, rfl, hb, ?_, hc, hm, fun j hj => World.ownsRow.cellAt (base := base) (e := e) (size := 1) (n := n) (cap := cap) ⟨hl, .inr ⟨g, cap, cur, rfl, hb, hg, hc, hm, hsz, ht⟩⟩ j (by omega)⟩
    by_cases hlt : g < w.heap.size
    · exact hlt
    · rw [Array.getElem?_eq_none (by omega)] at hg; cases hg

/-- Behind the two appends: what lay below the call's own blocks lies there still; the new row and its cells. -/
theorem appended {W w1 w2 w3 : World} {v1 v2 : Value} {zs : List Int} {len : Nat} (hz : zs.length = len) (hb : Below W.heap.size W w1)
    (hown1 : w2.ownsRow W.heap.size 22 1 v1 (0 + len) ([] ++ zs.map (Value.int .u64))) (hgrow1 : (w1.alloc (.cells #[] 22)).grownBy w2 (Value.slice (some ⟨w1.heap.size, 0, none⟩) 0 0).ownBlock)
    (hown2 : w3.ownsRow W.heap.size 22 1 v2 (0 + len + 1) (([] ++ zs.map (Value.int .u64)) ++ [Value.int .u64 77])) (hgrow2 : (w2.alloc (.cells #[.int .u64 77] 22)).grownBy w3 v1.ownBlock) :
    Below W.heap.size W w3 ∧ ∃ g cap, v2 = .slice (some ⟨g, 0, none⟩) (len + 1) cap ∧ W.heap.size ≤ g ∧ g < w3.heap.size ∧ len + 1 ≤ cap ∧ w3.cell? ⟨g, len, none⟩ = some (.int .u64 77) ∧
      ∀ j, j < len → w3.cell? ⟨g, j, none⟩ = some (.int .u64 (zs.getD j 0)) := by
  have hsz := hb.size
  have b1 : Below W.heap.size W (w1.alloc (.cells #[] 22)) := hb.alloc (by omega) _
  have b2 : Below W.heap.size W w2 := b1.grown hgrow1 (by simp; omega) (by intro k hk; simp [Value.ownBlock] at hk; omega)
  have b3 : Below W.heap.size W (w2.alloc (.cells #[.int .u64 77] 22)) := b2.alloc (by have := b2.size; omega) _
  have b4 : Below W.heap.size W w3 := b3.grown hgrow2 (by have := b2.size; simp; omega) (fun k hk => (hown1.lt k hk).1)
  refine ⟨b4, ?_⟩
  obtain ⟨g, cap, rfl, h1, h2, h3, h4, h5⟩ := owned_cells hown2 (by omega)
  refine ⟨g, cap, by simp, h1, h2, by omega, ?_, ?_⟩
  · rw [h5 len (by omega)]; simp [hz]
  · intro j hj
    rw [h5 j (by omega)]
    have : j < zs.length := by omega
    simp [List.getElem?_append, this, List.getD]
end Go.Proofs.Ytjonllmhgpfndaa
