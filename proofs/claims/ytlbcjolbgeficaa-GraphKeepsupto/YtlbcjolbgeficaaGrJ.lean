/-
  Graph, pure: ways
-/
import Derived.Test.YtlbcjolbgeficaaGrF
namespace Go.Proofs.Ytlbcjolbgeficaa
open Go.RowKit
set_option linter.unusedVariables false
set_option linter.unusedSimpArgs false
namespace Gr
def lenOf : Value → Nat
  | .slice _ n _ => n
  | _ => 0
/-- From an object back to the start, by those who stand ahead. -/
inductive Ch (s : Wk) : Int → List Int → Prop
  | nil : Ch s (-1) []
  | cons {k : Int} {l : List Int} : 1 ≤ k → s.a k ≠ 0 → Ch s (s.a k) l → Ch s k (k :: l)
theorem Ch.cases {s : Wk} {k : Int} {l : List Int} (h : Ch s k l) : (k = -1 ∧ l = []) ∨ (¬ k = -1 ∧ ∃ l', l = k :: l' ∧ Ch s (s.a k) l' ∧ ∃ p : Nat, k = (p : Int) + 1 ∧ s.A p ≠ 0) := by
  cases h with
  | nil => exact .inl ⟨rfl, rfl⟩
  | cons h1 h2 h3 =>
    refine .inr ⟨by omega, _, rfl, h3, k.toNat - 1, by omega, h2⟩
theorem a_at (s : Wk) (q : Nat) : s.a ((q : Int) + 1) = s.A q := by
  have e : ((q : Int) + 1).toNat - 1 = q := by omega
  simp [Wk.a, e]
theorem ch_pos {os : List Ob} {fr : List Int} {at' : Nat} {s : Wk} (G : Gi os fr at' s) : ∀ (i : Nat) (k : Int), s.ln[i]? = some k → ∃ l, Ch s k l := by
  intro i
  induction i using Nat.strongRecOn with
  | ind i ih =>
    intro k hk
    have hr := G.rng k (List.mem_of_getElem? hk)
    have h0 : s.a k ≠ 0 := (G.me k hr.1).1 (List.mem_of_getElem? hk)
    rcases G.tree i k hk with ⟨h1, _⟩ | ⟨j, p, o, h, _, h2, h3, h4, _⟩
    · exact ⟨[k], .cons hr.1 h0 (by rw [h1]; exact .nil)⟩
    · obtain ⟨l, hl⟩ := ih j h2 p h3
      exact ⟨k :: l, .cons hr.1 h0 (by rw [h4]; exact hl)⟩
theorem ch_all {os : List Ob} {fr : List Int} {s : Wk} {q : Nat} (G : Gi os fr s.ln.length s) (hA : ¬ s.A q = 0) : ∃ l, Ch s ((q : Int) + 1) l := by
  have h := (G.me ((q : Int) + 1) (by omega)).2 (by rw [a_at]; exact hA)
  obtain ⟨i, hi⟩ := List.mem_iff_getElem?.1 h
  exact ch_pos G i _ hi
theorem nd_inj {l : List Int} (h : l.Nodup) {i j : Nat} {x : Int} (hi : l[i]? = some x) (hj : l[j]? = some x) : i = j := by
  obtain ⟨a1, b1⟩ := List.getElem?_eq_some_iff.1 hi
  obtain ⟨a2, b2⟩ := List.getElem?_eq_some_iff.1 hj
  have h' := List.pairwise_iff_getElem.1 h
  by_cases e : i < j
  · exact absurd (b1.trans b2.symm) (h' i j a1 a2 e)
  · by_cases e2 : j < i
    · exact absurd (b2.trans b1.symm) (h' j i a2 a1 e2)
    · omega
/-- What the places of a chain are: those of the line, falling. -/
theorem ch_mem {os : List Ob} {fr : List Int} {at' : Nat} {s : Wk} (G : Gi os fr at' s) : ∀ {k : Int} {l : List Int}, Ch s k l → ∀ i : Nat, s.ln[i]? = some k → l.Nodup ∧ ∀ x ∈ l, ∃ j : Nat, j ≤ i ∧ s.ln[j]? = some x := by
  intro k l h
  induction h with
  | nil => intro i _; exact ⟨List.nodup_nil, by simp⟩
  | @cons k l h1 h2 h3 ih =>
    intro i hi
    rcases G.tree i k hi with ⟨h4, _⟩ | ⟨j, p, o, h, _, h5, h6, h7, _⟩
    · rw [h4] at h3
      cases h3 with
      | nil => exact ⟨by simp, by simp; exact ⟨i, Nat.le_refl _, hi⟩⟩
      | cons h _ _ => omega
    · obtain ⟨ihn, ihm⟩ := ih j (by rw [h7]; exact h6)
      refine ⟨List.nodup_cons.2 ⟨fun hin => ?_, ihn⟩, ?_⟩
      · obtain ⟨j', h8, h9⟩ := ihm k hin
        have : i = j' := nd_inj G.nd hi h9
        omega
      · intro x hx
        rcases List.mem_cons.1 hx with rfl | hx
        · exact ⟨i, Nat.le_refl _, hi⟩
        · obtain ⟨j', h8, h9⟩ := ihm x hx
          exact ⟨j', by omega, h9⟩
theorem ch_len {os : List Ob} {fr : List Int} {s : Wk} {q : Nat} {l : List Int} (G : Gi os fr s.ln.length s) (h : Ch s ((q : Int) + 1) l) : l.length ≤ os.length := by
  have h0 : s.a ((q : Int) + 1) ≠ 0 := by
    cases h with
    | cons _ h2 _ => exact h2
  have hm := (G.me _ (by omega)).2 h0
  obtain ⟨i, hi⟩ := List.mem_iff_getElem?.1 hm
  obtain ⟨h1, h2⟩ := ch_mem G h i hi
  exact len_le _ _ h1 (fun x hx => by obtain ⟨j, _, hj⟩ := h2 x hx; exact G.rng x (List.mem_of_getElem? hj))
/-- A way by a walk: the chain to the object, turned; nothing, where it isn't reached. -/
def Wl (c : Vc) (tg : Int) (l : List Int) : Prop :=
  (l = [] ∧ ¬ (1 ≤ tg ∧ tg ≤ (c.os.length : Int) ∧ Rc c.os (rts c) tg.toNat)) ∨ ∃ (s : Wk) (q : Nat), tg = (q : Int) + 1 ∧ s.A q ≠ 0 ∧ Gi c.os (rts c) s.ln.length s ∧ Ch s tg l.reverse
theorem wl_out {c : Vc} {tg : Int} (h : ¬ (1 ≤ tg ∧ tg ≤ (c.os.length : Int))) : Wl c tg [] := .inl ⟨rfl, fun h' => h ⟨h'.1, h'.2.1⟩⟩
theorem wl_none {c : Vc} {s : Wk} {q : Nat} (G : Gi c.os (rts c) s.ln.length s) (hA : s.A q = 0) : Wl c ((q : Int) + 1) [] := by
  refine .inl ⟨rfl, fun h => ?_⟩
  have e : ((q : Int) + 1).toNat = q + 1 := by omega
  rw [e] at h
  exact (G.rc q).2 h.2.2 hA
theorem wl_some {c : Vc} {s : Wk} {q : Nat} {l : List Int} (G : Gi c.os (rts c) s.ln.length s) (hA : ¬ s.A q = 0) (h : Ch s ((q : Int) + 1) l) : Wl c ((q : Int) + 1) l.reverse := .inr ⟨s, q, rfl, hA, G, by rw [List.reverse_reverse]; exact h⟩
end Gr
end Go.Proofs.Ytlbcjolbgeficaa
