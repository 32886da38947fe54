/-
  Hue, pure: steps that keep the laws of the three colours: a white one shaded, a grey one looked at, a slot given another handle.
-/
import Derived.Test.YtnodkeoikamonabHuP
namespace Go.Proofs.Ytnodkeoikamonab
set_option linter.unusedVariables false
set_option linter.unusedSimpArgs false
namespace Hu
open Gr

theorem lw_col {os : List Ob} {ws : List Int} {k : Nat} {fr : List Int} (h : Rc (lw os ws) fr k) : 1 ≤ k ∧ col os ws (k - 1) = 1 := by
  obtain ⟨h1, h2, o, h3, h4⟩ := h.pos
  rw [lw_len] at h2
  obtain ⟨o', ho⟩ : ∃ o', os[k - 1]? = some o' := ⟨os[k - 1]'(by omega), by simp [show k - 1 < os.length by omega]⟩
  rw [lw_get ho] at h3
  cases h3
  exact ⟨h1, by simpa using h4⟩
/-- What carries the laws over: nothing new is white; what is black and shows a white one was so; shelter stays. -/
structure Kp (os os' : List Ob) (ws ws' : List Int) : Prop where
  len : os'.length = os.length
  wh : ∀ x, wh os' ws' x ≠ 0 → wh os ws x = wh os' ws' x
  back : ∀ x, Hu.wh os ws x ≠ 0 → col os' ws' (Hu.wh os ws x - 1) = 1 → Hu.wh os' ws' x = Hu.wh os ws x
  blk : ∀ i x, col os' ws' i = 3 → x ∈ sls os' i → Hu.wh os' ws' x ≠ 0 → col os ws i = 3 ∧ x ∈ sls os i
  gry : ∀ i x, col os ws i = 2 → x ∈ sls os i → Hu.wh os' ws' x ≠ 0 → x ∈ so os' ws' 2 os'.length
  wht : ∀ i x, col os ws i = 1 → x ∈ sls os i → Hu.wh os' ws' x ≠ 0 → x ∈ so os' ws' 2 os'.length ∨ (col os' ws' i = 1 ∧ x ∈ sls os' i)
theorem Kp.strong {os os' : List Ob} {ws ws' : List Int} (K : Kp os os' ws ws') (h : fs (stp os ws) os.length = 0) : fs (stp os' ws') os'.length = 0 := by
  rw [fs_zero] at h ⊢
  intro j hj
  cases hb : stp os' ws' j with
  | false => rfl
  | true =>
    obtain ⟨h1, x, h2, h3⟩ := stp_iff.1 hb
    obtain ⟨h4, h5⟩ := K.blk j x h1 h2 h3
    have := h j (by rw [← K.len]; exact hj)
    rw [stp_iff.2 ⟨h4, x, h5, by rw [K.wh x h3]; exact h3⟩] at this
    cases this
theorem Kp.weak {os os' : List Ob} {ws ws' : List Int} (K : Kp os os' ws ws') (h : fs (wkp os ws) os.length = 0) : fs (wkp os' ws') os'.length = 0 := by
  rw [fs_zero] at h ⊢
  intro j hj
  cases hb : wkp os' ws' j with
  | false => rfl
  | true =>
    exfalso
    obtain ⟨⟨x, h1, h2⟩, h3⟩ := (wkp_iff os' ws' j).1 hb
    obtain ⟨i, hi, h4, h5⟩ := so_mem.1 h1
    obtain ⟨h6, h7⟩ := K.blk i x h4 h5 (by omega)
    have hx := K.wh x (by omega)
    have sb : Sb os ws j := ⟨x, so_mem.2 ⟨i, by rw [← K.len]; exact hi, h6, h7⟩, by rw [hx]; exact h2⟩
    have hj' : j < os.length := by rw [← K.len]; exact hj
    have sh : Sh os ws j := by
      cases hs : shb os ws j with
      | true => exact (shb_iff os ws j).1 hs
      | false =>
        have := h j hj'
        rw [(wkp_iff os ws j).2 ⟨sb, fun hh => by rw [(shb_iff os ws j).2 hh] at hs; cases hs⟩] at this
        cases this
    have key : ∀ k, Rc (lw os ws) (so os ws 2 os.length) k → col os' ws' (k - 1) = 1 → Rc (lw os' ws') (so os' ws' 2 os'.length) k := by
      intro k hk
      induction hk with
      | @root y y1 y2 =>
        intro hc
        rw [gd_lw] at y2 hc ⊢
        have e := K.back y y2 hc
        obtain ⟨i, _, h8, h9⟩ := so_mem.1 y1
        have := K.gry i y h8 h9 (by rw [e]; exact y2)
        have r := Rc.root (os := lw os' ws') this (by rw [gd_lw, e]; exact y2)
        rw [gd_lw, e] at r
        exact r
      | @step k o y hk y1 y2 y3 ih =>
        intro hc
        rw [gd_lw] at y3 hc ⊢
        have e := K.back y y3 hc
        obtain ⟨k1, kc⟩ := lw_col hk
        have kl : k - 1 < os.length := col_pos (by rw [kc]; omega)
        obtain ⟨o', ho⟩ : ∃ o', os[k - 1]? = some o' := ⟨os[k - 1], by simp [kl]⟩
        rw [lw_get ho] at y1
        cases y1
        have ym : y ∈ sls os (k - 1) := by rw [sls_at ho]; exact y2
        rcases K.wht (k - 1) y kc ym (by rw [e]; exact y3) with hw | ⟨hw1, hw2⟩
        · have r := Rc.root (os := lw os' ws') hw (by rw [gd_lw, e]; exact y3)
          rw [gd_lw, e] at r
          exact r
        · have kl' : k - 1 < os'.length := by rw [K.len]; exact kl
          obtain ⟨o2, ho2⟩ : ∃ o2, os'[k - 1]? = some o2 := ⟨os'[k - 1], by simp [kl']⟩
          rw [sls_at ho2] at hw2
          have r := Rc.step (ih hw1) (lw_get (ws := ws') ho2) hw2 (by rw [gd_lw, e]; exact y3)
          rw [gd_lw, e] at r
          exact r
    refine h3 (key (j + 1) sh ?_)
    have := wh_col (os := os') (ws := ws') (h := x) (by omega)
    rw [h2] at this
    exact this

theorem wh_ws (os : List Ob) (ws ws' : List Int) (h : Int) : wh os ws h = wh os ws' h := by
  have key : ∀ i, col os ws i = 1 ↔ col os ws' i = 1 := by
    intro i
    cases ho : os[i]? with
    | none => simp [col, ho]
    | some o =>
      rcases col_cases ws ho with ⟨h1, h2⟩ | ⟨h1, h3, h2⟩ | ⟨h1, h3, _, h2⟩ | ⟨h1, h3, _, h2⟩ <;>
      rcases col_cases ws' ho with ⟨k1, k2⟩ | ⟨k1, k3, k2⟩ | ⟨k1, k3, _, k2⟩ | ⟨k1, k3, _, k2⟩ <;> simp_all
  unfold wh
  simp only [key]
theorem gd_set {os : List Ob} {p : Nat} {o o' : Ob} (hp : os[p]? = some o) (hu : o'.us = o.us) (hg : o'.ge = o.ge) (h : Int) : gd (os.set p o') h = gd os h := by
  obtain ⟨k, hk⟩ : ∃ k, (h % 4294967296).toNat - 1 = k := ⟨_, rfl⟩
  have hpl := (List.getElem?_eq_some_iff.1 hp).1
  simp only [gd, hk]
  by_cases e : p = k
  · subst e
    rw [List.getElem?_set_self hpl, hp]
    simp only [hu, hg]
  · rw [List.getElem?_set_ne e]
theorem sls_set {os : List Ob} {p : Nat} {o' : Ob} (hp : p < os.length) (i : Nat) : sls (os.set p o') i = if i = p then o'.sl else sls os i := by
  unfold sls
  by_cases e : i = p
  · subst e; rw [List.getElem?_set_self hp]; simp
  · rw [List.getElem?_set_ne (fun h => e h.symm)]; simp [e]
theorem col_set_ne {os : List Ob} {p : Nat} {o' : Ob} {ws ws' : List Int} {i : Nat} (e : i ≠ p) (hw : (i : Int) + 1 ∈ ws' ↔ (i : Int) + 1 ∈ ws) : col (os.set p o') ws' i = col os ws i := by
  unfold col
  rw [List.getElem?_set_ne (fun h => e h.symm)]
  cases os[i]? with
  | none => rfl
  | some o => simp only [hw]
/-- A white one is shaded. -/
theorem kp_shade {os : List Ob} {p : Nat} {o : Ob} {ws : List Int} (hp : os[p]? = some o) (hu : o.us = true) (hl : o.li = false) : Kp os (os.set p { o with li := true }) ws (ws ++ [(p : Int) + 1]) := by
  have hpl := (List.getElem?_eq_some_iff.1 hp).1
  have hgd : ∀ h, gd (os.set p { o with li := true }) h = gd os h := gd_set hp rfl rfl
  have hsl : ∀ i, sls (os.set p { o with li := true }) i = sls os i := fun i => by
    rw [sls_set hpl]
    split
    · rename_i e; subst e; rw [sls_at hp]
    · rfl
  have hcp : col (os.set p { o with li := true }) (ws ++ [(p : Int) + 1]) p = 2 := by
    have h1 : (os.set p { o with li := true })[p]? = some { o with li := true } := List.getElem?_set_self hpl
    rcases col_cases (ws ++ [(p : Int) + 1]) h1 with ⟨h2, _⟩ | ⟨_, h2, _⟩ | ⟨_, _, _, h2⟩ | ⟨_, _, h2, _⟩
    · simp [hu] at h2
    · simp at h2
    · exact h2
    · simp at h2
  have hcn : ∀ i, i ≠ p → col (os.set p { o with li := true }) (ws ++ [(p : Int) + 1]) i = col os ws i := fun i hi => col_set_ne hi (by
    have : ¬ (i : Int) + 1 = (p : Int) + 1 := by omega
    simp [this])
  have hcw : col os ws p = 1 := by
    rcases col_cases ws hp with ⟨h2, _⟩ | ⟨_, _, h2⟩ | ⟨_, h2, _⟩ | ⟨_, h2, _⟩
    · rw [hu] at h2; cases h2
    · exact h2
    · rw [hl] at h2; cases h2
    · rw [hl] at h2; cases h2
  have hlen : (os.set p { o with li := true }).length = os.length := by simp
  have whn : ∀ x, wh (os.set p { o with li := true }) (ws ++ [(p : Int) + 1]) x ≠ 0 → wh os ws x = wh (os.set p { o with li := true }) (ws ++ [(p : Int) + 1]) x := by
    intro x hx
    obtain ⟨h1, h2, h3⟩ := wh_ne hx
    rw [← h1]
    rw [hgd] at h2 h3 ⊢
    have hne : gd os x - 1 ≠ p := by intro e; rw [e, hcp] at h3; omega
    rw [hcn _ hne] at h3
    unfold wh
    rw [if_pos ⟨h2, h3⟩]
  refine ⟨hlen, whn, ?_, ?_, ?_, ?_⟩
  · intro x hx hc
    obtain ⟨h1, h2, h3⟩ := wh_ne hx
    rw [← h1] at hc ⊢
    unfold wh
    rw [hgd, if_pos ⟨h2, hc⟩]
  · intro i x hc hx hw
    have hne : i ≠ p := by rintro rfl; rw [hcp] at hc; omega
    rw [hcn i hne] at hc
    rw [hsl] at hx
    exact ⟨hc, hx⟩
  · intro i x hc hx hw
    have hne : i ≠ p := by rintro rfl; rw [hcw] at hc; omega
    have hi : i < os.length := col_pos (by rw [hc]; omega)
    exact so_mem.2 ⟨i, by rw [hlen]; exact hi, by rw [hcn i hne]; exact hc, by rw [hsl]; exact hx⟩
  · intro i x hc hx hw
    by_cases e : i = p
    · subst e
      exact .inl (so_mem.2 ⟨i, by rw [hlen]; exact hpl, hcp, by rw [hsl]; exact hx⟩)
    · exact .inr ⟨by rw [hcn i e]; exact hc, by rw [hsl]; exact hx⟩
/-- A grey one that shows no white one is looked at. -/
theorem kp_look {os : List Ob} {p : Nat} {o : Ob} {ws ws' : List Int} (hp : os[p]? = some o) (hu : o.us = true) (hl : o.li = true) (hc : ∀ x ∈ o.sl, wh os ws x = 0) (hw : ∀ x, x ∈ ws' ↔ x ∈ ws ∧ x ≠ (p : Int) + 1) : Kp os os ws ws' := by
  have hcp : col os ws' p = 3 := by
    rcases col_cases ws' hp with ⟨h2, _⟩ | ⟨_, h2, _⟩ | ⟨_, _, h2, _⟩ | ⟨_, _, _, h2⟩
    · rw [hu] at h2; cases h2
    · rw [hl] at h2; cases h2
    · have := ((hw _).1 h2).2; exact absurd rfl this
    · exact h2
  have hcn : ∀ i, i ≠ p → col os ws' i = col os ws i := fun i hi => by
    have e : ((i : Int) + 1 ∈ ws') = ((i : Int) + 1 ∈ ws) := propext ((hw _).trans ⟨fun h => h.1, fun h => ⟨h, by omega⟩⟩)
    unfold col
    cases os[i]? with
    | none => rfl
    | some o => simp only [e]
  have hw0 : ∀ x, wh os ws' x = wh os ws x := fun x => wh_ws os ws' ws x
  have hnw : col os ws p ≠ 1 := by
    rcases col_cases ws hp with ⟨h2, _⟩ | ⟨_, h2, _⟩ | ⟨_, _, _, h2⟩ | ⟨_, _, _, h2⟩
    · rw [hu] at h2; cases h2
    · rw [hl] at h2; cases h2
    · omega
    · omega
  refine ⟨rfl, fun x _ => (hw0 x).symm, fun x _ _ => hw0 x, ?_, ?_, ?_⟩
  · intro i x h3 hx hwx
    by_cases e : i = p
    · subst e
      rw [sls_at hp] at hx
      rw [hw0] at hwx
      exact absurd (hc x hx) hwx
    · rw [hcn i e] at h3; exact ⟨h3, hx⟩
  · intro i x h2 hx hwx
    by_cases e : i = p
    · subst e
      rw [sls_at hp] at hx
      rw [hw0] at hwx
      exact absurd (hc x hx) hwx
    · exact so_mem.2 ⟨i, col_pos (by rw [h2]; omega), by rw [hcn i e]; exact h2, hx⟩
  · intro i x h1 hx hwx
    have e : i ≠ p := by rintro rfl; exact hnw h1
    exact .inr ⟨by rw [hcn i e]; exact h1, hx⟩
/-- A slot is given another handle; neither the old nor the new one is white. -/
theorem kp_slot {os : List Ob} {p s : Nat} {o : Ob} {ws : List Int} {u h : Int} (hp : os[p]? = some o) (hs : o.sl[s]? = some u) (hu : wh os ws u = 0) (hh : wh os ws h = 0) : Kp os (os.set p { o with sl := o.sl.set s h }) ws ws := by
  have hpl := (List.getElem?_eq_some_iff.1 hp).1
  have hgd : ∀ x, gd (os.set p { o with sl := o.sl.set s h }) x = gd os x := gd_set hp rfl rfl
  have hcol : ∀ i, col (os.set p { o with sl := o.sl.set s h }) ws i = col os ws i := fun i => by
    by_cases e : i = p
    · subst e
      unfold col
      rw [List.getElem?_set_self hpl, hp]
      rfl
    · exact col_set_ne e Iff.rfl
  have hwh : ∀ x, wh (os.set p { o with sl := o.sl.set s h }) ws x = wh os ws x := fun x => by
    unfold wh; rw [hgd, hcol]
  have hlen : (os.set p { o with sl := o.sl.set s h }).length = os.length := by simp
  have fwd : ∀ i x, x ∈ sls os i → wh os ws x ≠ 0 → x ∈ sls (os.set p { o with sl := o.sl.set s h }) i := by
    intro i x hx hw
    rw [sls_set hpl]
    by_cases e : i = p
    · subst e
      rw [if_pos rfl]
      rw [sls_at hp] at hx
      obtain ⟨t, ht⟩ := List.mem_iff_getElem?.1 hx
      have hne : s ≠ t := by
        rintro rfl
        rw [hs] at ht
        cases ht
        exact hw hu
      refine List.mem_iff_getElem?.2 ⟨t, ?_⟩
      show (o.sl.set s h)[t]? = some x
      rw [List.getElem?_set_ne hne]
      exact ht
    · rw [if_neg e]; exact hx
  have bwd : ∀ i x, x ∈ sls (os.set p { o with sl := o.sl.set s h }) i → wh os ws x ≠ 0 → x ∈ sls os i := by
    intro i x hx hw
    rw [sls_set hpl] at hx
    by_cases e : i = p
    · subst e
      rw [if_pos rfl] at hx
      rw [sls_at hp]
      rcases List.mem_or_eq_of_mem_set hx with h1 | h1
      · exact h1
      · subst h1; exact absurd hh hw
    · rw [if_neg e] at hx; exact hx
  refine ⟨hlen, fun x _ => (hwh x).symm, fun x _ _ => hwh x, ?_, ?_, ?_⟩
  · intro i x h3 hx hw
    rw [hcol] at h3
    rw [hwh] at hw
    exact ⟨h3, bwd i x hx hw⟩
  · intro i x h2 hx hw
    rw [hwh] at hw
    exact so_mem.2 ⟨i, by rw [hlen]; exact col_pos (by rw [h2]; omega), by rw [hcol]; exact h2, fwd i x hx hw⟩
  · intro i x h1 hx hw
    rw [hwh] at hw
    exact .inr ⟨by rw [hcol]; exact h1, fwd i x hx hw⟩
end Hu
end Go.Proofs.Ytnodkeoikamonab
