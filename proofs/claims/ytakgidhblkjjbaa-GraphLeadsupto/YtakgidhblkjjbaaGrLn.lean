/-
  Graph, pure: what a way is; what is dead, from a number on.
-/
import Derived.Test.YtakgidhblkjjbaaGrJ
import Derived.Test.YtakgidhblkjjbaaGrH
namespace Go.Proofs.Ytakgidhblkjjbaa
open Go.RowKit
set_option linter.unusedVariables false
set_option linter.unusedSimpArgs false
namespace Gr
def slo (os : List Ob) (k : Int) : List Int := match os[k.toNat - 1]? with | some o => o.sl | none => []
/-- The handles at place i of a way: the first ones, or the slots of the one ahead. -/
def cur (os : List Ob) (fr : List Int) (l : List Int) : Nat → List Int
  | 0 => fr
  | i + 1 => slo os (l[i]?.getD 0)
theorem cur_app {os : List Ob} {fr l : List Int} {k : Int} : ∀ {i : Nat}, i ≤ l.length → cur os fr (l ++ [k]) i = cur os fr l i
  | 0, _ => rfl
  | i + 1, h => by
    simp only [cur]
    rw [List.getElem?_append_left (by omega)]
structure Le (os : List Ob) (fr : List Int) (l : List Int) : Prop where
  led : ∀ (i : Nat) (k : Int), l[i]? = some k → ∃ h ∈ cur os fr l i, gd os h = k.toNat ∧ gd os h ≠ 0
  pos : ∀ k ∈ l, 1 ≤ k
theorem Le.snoc {os : List Ob} {fr l : List Int} {k : Int} (L : Le os fr l) (h1 : 1 ≤ k) (h : ∃ h ∈ cur os fr l l.length, gd os h = k.toNat) : Le os fr (l ++ [k]) := by
  constructor
  · intro i x hx
    by_cases hi : i < l.length
    · rw [List.getElem?_append_left hi] at hx
      rw [cur_app (by omega)]
      exact L.led i x hx
    · have hl := (List.getElem?_eq_some_iff.1 hx).1
      simp at hl
      obtain rfl : i = l.length := by omega
      simp at hx
      subst hx
      rw [cur_app (Nat.le_refl _)]
      obtain ⟨h, h2, h3⟩ := h
      exact ⟨h, h2, h3, by omega⟩
  · intro x hx
    rcases List.mem_append.1 hx with hx | hx
    · exact L.pos x hx
    · simp at hx; subst hx; exact h1
theorem ch_le {os : List Ob} {fr : List Int} {at' : Nat} {s : Wk} (G : Gi os fr at' s) : ∀ {k : Int} {l : List Int}, Ch s k l → ∀ i : Nat, s.ln[i]? = some k → Le os fr l.reverse ∧ l ≠ [] ∧ l.head? = some k := by
  intro k l h
  induction h with
  | nil => intro i hi; have := G.rng _ (List.mem_of_getElem? hi); omega
  | @cons k l h1 h2 h3 ih =>
    intro i hi
    refine ⟨?_, by simp, rfl⟩
    rw [List.reverse_cons]
    rcases G.tree i k hi with ⟨h4, h, h5, h6⟩ | ⟨j, p, o, h, _, h5, h6, h7, h8, h9, h10⟩
    · rw [h4] at h3
      cases h3 with
      | nil => exact Le.snoc ⟨by intro i k hk; simp at hk, by simp⟩ h1 ⟨h, by simpa [cur] using h5, h6⟩
      | cons h _ _ => omega
    · rw [h7] at h3
      obtain ⟨L, hne, hhd⟩ := ih j (by rw [h7]; exact h6)
      refine L.snoc h1 ⟨h, ?_, h10⟩
      cases l with
      | nil => exact absurd rfl hne
      | cons x r =>
        simp at hhd
        subst hhd
        simp only [List.reverse_cons, List.length_append, List.length_cons, List.length_nil, Nat.zero_add, cur]
        rw [List.getElem?_append_right (Nat.le_refl _)]
        simp only [Nat.sub_self, List.getElem?_cons_zero, Option.getD_some, slo]
        rw [h7, h8]
        exact h9
/-- What the law asks of a way. -/
structure Wf (c : Vc) (tg : Int) (l : List Int) : Prop where
  le : Le c.os (rts c) l
  nd : l.Nodup
  len : l.length ≤ c.os.length
  rch : ∀ x ∈ l, ∃ q : Nat, x = (q : Int) + 1 ∧ q < c.os.length ∧ rb c.os (rts c) q = true
  some : 0 < l.length ↔ ∃ q : Nat, tg = (q : Int) + 1 ∧ q < c.os.length ∧ rb c.os (rts c) q = true
  last : 0 < l.length → l[l.length - 1]? = .some tg
theorem wf_of {c : Vc} {tg : Int} {l : List Int} (h : Wl c tg l) : Wf c tg l := by
  rcases h with ⟨rfl, h⟩ | ⟨s, q, rfl, hA, G, hC⟩
  · refine ⟨⟨by intro i k hk; simp at hk, by simp⟩, List.nodup_nil, by simp, by simp, ?_, by simp⟩
    constructor
    · intro h'; simp at h'
    · rintro ⟨q, rfl, hq, hr⟩
      exfalso
      rw [rb_iff] at hr
      refine h ⟨by omega, by omega, ?_⟩
      rw [show ((q : Int) + 1).toNat = q + 1 by omega]
      exact hr
  · have hm := (G.me ((q : Int) + 1) (by omega)).2 (by rw [a_at]; exact hA)
    obtain ⟨i, hi⟩ := List.mem_iff_getElem?.1 hm
    obtain ⟨L, hne, hhd⟩ := ch_le G hC i hi
    obtain ⟨hnd, hmem⟩ := ch_mem G hC i hi
    rw [List.reverse_reverse] at L
    have hrch : ∀ x ∈ l, ∃ q : Nat, x = (q : Int) + 1 ∧ q < c.os.length ∧ rb c.os (rts c) q = true := by
      intro x hx
      obtain ⟨j, _, hj⟩ := hmem x (by simpa using hx)
      have hr := G.rng x (List.mem_of_getElem? hj)
      have ha := (G.me x hr.1).1 (List.mem_of_getElem? hj)
      refine ⟨x.toNat - 1, by omega, by omega, ?_⟩
      rw [← G.rb]
      simpa [Wk.a] using ha
    have hlen : 0 < l.length := by
      rcases Nat.eq_zero_or_pos l.length with h0 | h0
      · exact absurd (by simp [List.length_eq_zero_iff.1 h0]) hne
      · exact h0
    have hnd' : l.Nodup := (List.reverse_perm l).nodup_iff.1 hnd
    refine ⟨L, hnd', ?_, hrch, ?_, fun _ => ?_⟩
    · have := ch_len G hC; simpa using this
    · constructor
      · intro _
        have hr := G.rng _ (List.mem_of_getElem? hi)
        refine ⟨q, rfl, by omega, ?_⟩
        rw [← G.rb]
        simpa using hA
      · intro _; exact hlen
    · rw [List.head?_reverse, List.getLast?_eq_getElem?] at hhd
      exact hhd

/-- The dead ones from number i + 1 on. -/
noncomputable def ddr (c : Vc) : Nat → Nat → List Int
  | 0, i => []
  | k + 1, i => (if ddp c i then [(i : Int) + 1] else []) ++ ddr c k (i + 1)
theorem dd_split (c : Vc) : ∀ (k i : Nat), ddk c (i + k) = ddk c i ++ ddr c k i
  | 0, i => by simp [ddr]
  | k + 1, i => by
    rw [show i + (k + 1) = (i + 1) + k by omega, dd_split c k (i + 1), ddk_step, ddr, List.append_assoc]
theorem ddr_ge (c : Vc) : ∀ (k i : Nat), ∀ x ∈ ddr c k i, (i : Int) + 1 ≤ x
  | 0, i, x, hx => by simp [ddr] at hx
  | k + 1, i, x, hx => by
    rw [ddr] at hx
    rcases List.mem_append.1 hx with hx | hx
    · split at hx
      · simp at hx; omega
      · simp at hx
    · have := ddr_ge c k (i + 1) x hx
      omega
/-- At its place among the dead stands the object, or not. -/
theorem dd_at (c : Vc) {i : Nat} (hi : i < c.os.length) : (ddp c i = true → (dd c)[(ddk c i).length]? = some ((i : Int) + 1)) ∧ (ddp c i = false → ∀ x, (dd c)[(ddk c i).length]? = some x → (x == (i : Int) + 1) = false) := by
  have e : dd c = ddk c i ++ ddr c (c.os.length - i) i := by
    unfold dd
    rw [← dd_split]
    congr 1
    omega
  obtain ⟨k, hk⟩ : ∃ k, c.os.length - i = k + 1 := ⟨c.os.length - i - 1, by omega⟩
  rw [hk] at e
  constructor
  · intro h
    rw [e, List.getElem?_append_right (Nat.le_refl _)]
    simp [ddr, h]
  · intro h x hx
    rw [e, List.getElem?_append_right (Nat.le_refl _)] at hx
    simp [ddr, h] at hx
    have hm : x ∈ ddr c k (i + 1) := by
      cases hd : ddr c k (i + 1) with
      | nil => rw [hd] at hx; simp at hx
      | cons y r => rw [hd] at hx; simp at hx; subst hx; simp
    have := ddr_ge c k (i + 1) x hm
    have h2 : ¬ x = (i : Int) + 1 := by omega
    simp [h2]
theorem rb_used {os : List Ob} {l : List Int} {i : Nat} {o : Ob} (ho : os[i]? = some o) (h : rb os l i = true) : o.us = true := by
  rw [rb_iff] at h
  obtain ⟨_, _, o', h1, h2⟩ := h.pos
  simp at h1
  rw [ho] at h1
  cases h1
  exact h2
theorem held_in {c : Vc} {i : Nat} {o : Ob} (ho : c.os[i]? = some o) (hi : (i : Int) + 1 < 4294967296) (hd' : ddp c i = true) (hf : o.fi = true) (ht : o.ta = false) (hg0 : 0 ≤ o.ge) (hg : o.ge < 4294967296) : rb c.os (hls c) i = true := by
  have hil : i < c.os.length := (List.getElem?_eq_some_iff.1 ho).1
  have hus : o.us = true := by
    have := hd'
    simp [ddp, usA, ho] at this
    exact this.1
  have hm : ((i : Int) + 1) ∈ dd c := List.mem_map.2 ⟨i, List.mem_filter.2 ⟨List.mem_range.2 hil, hd'⟩, rfl⟩
  have hfx : fx c.os ((i : Int) + 1) = true := by
    have e : ((i : Int) + 1).toNat - 1 = i := by omega
    simp only [fx, e, ho, hf, ht]
    rfl
  have hin : hof c.os ((i : Int) + 1) ∈ hls c := List.mem_map.2 ⟨_, List.mem_filter.2 ⟨hm, hfx⟩, rfl⟩
  have hgd : gd c.os (hof c.os ((i : Int) + 1)) = i + 1 := by
    rw [hof_at ho]
    have e1 : hd ((i : Int) + 1) o.ge % 4294967296 = (i : Int) + 1 := by unfold hd; omega
    have e2 : hd ((i : Int) + 1) o.ge / 4294967296 = o.ge := by unfold hd; omega
    exact (gd_val e1 e2).1 i o rfl ho hus rfl
  rw [rb_iff]
  have := Rc.root (os := c.os) hin (by rw [hgd]; omega)
  rw [hgd] at this
  exact this
end Gr
end Go.Proofs.Ytakgidhblkjjbaa
