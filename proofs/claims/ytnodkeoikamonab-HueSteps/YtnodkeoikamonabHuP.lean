/-
  Hue, pure: the three lists together; the strong law holds the weak one; what the laws are for; steps that keep them.
-/
import Derived.Test.YtnodkeoikamonabHuN
namespace Go.Proofs.Ytnodkeoikamonab
set_option linter.unusedVariables false
set_option linter.unusedSimpArgs false
namespace Hu
open Gr

theorem strong_weak {os : List Ob} {ws : List Int} (h : fs (stp os ws) os.length = 0) : fs (wkp os ws) os.length = 0 := by
  rw [fs_zero] at h ⊢
  intro j hj
  cases hb : wkp os ws j with
  | false => rfl
  | true =>
    obtain ⟨⟨x, h1, h2⟩, _⟩ := (wkp_iff os ws j).1 hb
    obtain ⟨i, hi, h3, h4⟩ := so_mem.1 h1
    have := h i hi
    rw [stp_iff.2 ⟨h3, x, h4, by omega⟩] at this
    cases this

def al3 (os : List Ob) (ws : List Int) : List Int := nb os ws 1 os.length ++ nb os ws 2 os.length ++ nb os ws 3 os.length
theorem al3_nodup (os : List Ob) (ws : List Int) : (al3 os ws).Nodup := by
  have dis : ∀ c d : Int, c ≠ d → ∀ x, x ∈ nb os ws c os.length → x ∈ nb os ws d os.length → False := by
    intro c d hcd x h1 h2
    obtain ⟨i, _, h3, h4⟩ := nb_mem.1 h1
    obtain ⟨j, _, h5, h6⟩ := nb_mem.1 h2
    have : i = j := by omega
    subst this
    exact hcd (h3.symm.trans h5)
  unfold al3
  rw [List.nodup_append, List.nodup_append]
  refine ⟨⟨nb_nodup _ _ _ _, nb_nodup _ _ _ _, ?_⟩, nb_nodup _ _ _ _, ?_⟩
  · intro a ha b hb e; subst e; exact dis 1 2 (by omega) a ha hb
  · intro a ha b hb e
    subst e
    rcases List.mem_append.1 ha with ha | ha
    · exact dis 1 3 (by omega) a ha hb
    · exact dis 2 3 (by omega) a ha hb
theorem al3_mem {os : List Ob} {ws : List Int} {i : Nat} {o : Ob} (ho : os[i]? = some o) : (i : Int) + 1 ∈ al3 os ws ↔ o.us = true := by
  have hi := (List.getElem?_eq_some_iff.1 ho).1
  have one : ∀ c, (i : Int) + 1 ∈ nb os ws c os.length ↔ col os ws i = c := by
    intro c
    rw [nb_mem]
    constructor
    · rintro ⟨j, _, h1, h2⟩
      have : i = j := by omega
      subst this; exact h1
    · intro h; exact ⟨i, hi, h, rfl⟩
  unfold al3
  rw [List.mem_append, List.mem_append, one, one, one]
  rcases col_cases ws ho with ⟨h1, h2⟩ | ⟨h1, _, h2⟩ | ⟨h1, _, _, h2⟩ | ⟨h1, _, _, h2⟩ <;> rw [h1, h2] <;> simp
theorem al3_at {os : List Ob} {ws : List Int} {k : Nat} {x : Int} (h : (al3 os ws)[k]? = some x) : ∃ (q : Nat) (o : Ob), x = (q : Int) + 1 ∧ os[q]? = some o ∧ o.us = true ∧ o.li = decide ((nb os ws 1 os.length).length ≤ k) := by
  have mem : ∀ c, x ∈ nb os ws c os.length → ∃ (q : Nat) (o : Ob), x = (q : Int) + 1 ∧ os[q]? = some o ∧ col os ws q = c := by
    intro c hc
    obtain ⟨i, h1, h2, h3⟩ := nb_mem.1 hc
    exact ⟨i, os[i], h3, by simp [h1], h2⟩
  unfold al3 at h
  by_cases hk : k < (nb os ws 1 os.length).length
  · rw [List.append_assoc, List.getElem?_append_left hk] at h
    obtain ⟨q, o, h1, h2, h3⟩ := mem 1 (List.mem_of_getElem? h)
    refine ⟨q, o, h1, h2, ?_⟩
    rw [show decide ((nb os ws 1 os.length).length ≤ k) = false by simp; omega]
    rcases col_cases ws h2 with ⟨_, h⟩ | ⟨h5, h6, h⟩ | ⟨_, _, _, h⟩ | ⟨_, _, _, h⟩
    · omega
    · exact ⟨h5, h6⟩
    · omega
    · omega
  · rw [List.append_assoc, List.getElem?_append_right (by omega)] at h
    have hm := List.mem_of_getElem? h
    rw [show decide ((nb os ws 1 os.length).length ≤ k) = true by simp; omega]
    rcases List.mem_append.1 hm with hm | hm
    · obtain ⟨q, o, h1, h2, h3⟩ := mem 2 hm
      refine ⟨q, o, h1, h2, ?_⟩
      rcases col_cases ws h2 with ⟨_, h⟩ | ⟨h5, h6, h⟩ | ⟨h5, h6, _, h⟩ | ⟨_, _, _, h⟩
      · omega
      · omega
      · exact ⟨h5, h6⟩
      · omega
    · obtain ⟨q, o, h1, h2, h3⟩ := mem 3 hm
      refine ⟨q, o, h1, h2, ?_⟩
      rcases col_cases ws h2 with ⟨_, h⟩ | ⟨h5, h6, h⟩ | ⟨h5, h6, _, h⟩ | ⟨h5, h6, _, h⟩
      · omega
      · omega
      · omega
      · exact ⟨h5, h6⟩
theorem al3_new {os : List Ob} {ws : List Int} {k : Nat} {x : Int} (h : (al3 os ws)[k]? = some x) : x ∉ (al3 os ws).take k := by
  intro hin
  obtain ⟨hk, rfl⟩ := List.getElem?_eq_some_iff.1 h
  obtain ⟨j, hj, he⟩ := List.mem_iff_getElem.1 hin
  simp at hj
  rw [List.getElem_take] at he
  exact List.pairwise_iff_getElem.1 (al3_nodup os ws) j k (by omega) hk (by omega) he
theorem al3_len (os : List Ob) (ws : List Int) : (al3 os ws).length ≤ 3 * os.length := by
  have h1 := nb_len os ws 1 os.length
  have h2 := nb_len os ws 2 os.length
  have h3 := nb_len os ws 3 os.length
  unfold al3
  simp only [List.length_append]
  omega

theorem rc_none {os : List Ob} {k : Nat} (h : Rc os [] k) : False := by
  induction h with
  | root h1 _ => simp at h1
  | step _ _ _ _ ih => exact ih
/-- Where the weak law holds and nothing is grey, no way leads from what is not white to what is. -/
theorem done_step {os : List Ob} {ws : List Int} (hw : fs (wkp os ws) os.length = 0) (hg : nb os ws 2 os.length = []) {i : Nat} (hi : i < os.length) (hc : col os ws i ≠ 1) {h : Int} (hm : h ∈ sls os i) (hu : col os ws i ≠ 0) : wh os ws h = 0 := by
  have nog : ∀ j, j < os.length → col os ws j ≠ 2 := by
    intro j hj e
    have : (j : Int) + 1 ∈ nb os ws 2 os.length := nb_mem.2 ⟨j, hj, e, rfl⟩
    rw [hg] at this
    simp at this
  have h3 : col os ws i = 3 := by
    have h1 := nog i hi
    have h2 := col_rng os ws i
    omega
  have so0 : so os ws 2 os.length = [] := by
    rw [List.eq_nil_iff_forall_not_mem]
    intro x hx
    obtain ⟨j, h4, h5, _⟩ := so_mem.1 hx
    exact nog j h4 h5
  cases hq : wh os ws h with
  | zero => rfl
  | succ q =>
    exfalso
    have hb : Sb os ws q := ⟨h, so_mem.2 ⟨i, hi, h3, hm⟩, hq⟩
    have := fs_zero.1 hw q hb.lt
    have h6 := (wkp_iff os ws q).2 ⟨hb, fun hs => by
      have hs2 : Rc (lw os ws) (so os ws 2 os.length) (q + 1) := hs
      rw [so0] at hs2
      exact rc_none hs2⟩
    rw [this] at h6
    cases h6
/-- What the laws are for. -/
theorem done_live {os : List Ob} {ws fr : List Int} (hw : fs (wkp os ws) os.length = 0) (hg : nb os ws 2 os.length = []) (hf : ∀ h ∈ fr, wh os ws h = 0) {k : Nat} (h : Rc os fr k) : col os ws (k - 1) ≠ 1 ∧ col os ws (k - 1) ≠ 0 := by
  have used : ∀ h, gd os h ≠ 0 → col os ws (gd os h - 1) ≠ 0 := by
    intro h h0
    obtain ⟨o, h1, h2, _⟩ := gd_used h0
    rcases col_cases ws h1 with ⟨h3, _⟩ | ⟨_, _, h⟩ | ⟨_, _, _, h⟩ | ⟨_, _, _, h⟩
    · rw [h2] at h3; cases h3
    · omega
    · omega
    · omega
  have key : ∀ h, gd os h ≠ 0 → wh os ws h = 0 → col os ws (gd os h - 1) ≠ 1 := by
    intro h h0 h1 h2
    unfold wh at h1
    rw [if_pos ⟨h0, h2⟩] at h1
    exact h0 h1
  induction h with
  | @root h h1 h2 => exact ⟨key h h2 (hf h h1), used h h2⟩
  | @step k o h hk h2 h3 h4 ih =>
    have hp := hk.pos
    exact ⟨key h h4 (done_step hw hg (by omega) ih.1 (by rw [sls_at h2]; exact h3) ih.2), used h h4⟩
end Hu
end Go.Proofs.Ytnodkeoikamonab
