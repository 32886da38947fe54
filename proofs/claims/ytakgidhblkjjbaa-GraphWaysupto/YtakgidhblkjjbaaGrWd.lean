/-
  Graph, pure: the nearest of the handles at each place is the way's.
-/
import Derived.Test.YtakgidhblkjjbaaGrWb
import Derived.Test.YtakgidhblkjjbaaGrWc
namespace Go.Proofs.Ytakgidhblkjjbaa
open Go.RowKit
set_option linter.unusedVariables false
set_option linter.unusedSimpArgs false
namespace Gr
structure Ns (os : List Ob) (D : Nat → Int) (l : List Int) (b : Nat) : Prop where
  zero : b = 0 → ∀ u ∈ l, gd os u ≠ 0 → D (gd os u - 1) < 0
  mem : b ≠ 0 → (∃ u ∈ l, gd os u = b) ∧ 0 ≤ D (b - 1)
  min : b ≠ 0 → ∀ u ∈ l, gd os u ≠ 0 → 0 ≤ D (gd os u - 1) → D (b - 1) < D (gd os u - 1) ∨ (D (b - 1) = D (gd os u - 1) ∧ b ≤ gd os u)
theorem Ns.step {os : List Ob} {D : Nat → Int} {l : List Int} {b : Nat} (N : Ns os D l b) (h : Int) : Ns os D (l ++ [h]) (ner os D b h) := by
  unfold ner
  split
  · rename_i hc
    refine ⟨fun e u hu h0 => ?_, fun e => ?_, fun e u hu h0 h1 => ?_⟩
    · rcases List.mem_append.1 hu with hu | hu
      · exact N.zero e u hu h0
      · simp at hu; subst hu
        rcases hc with hc | hc
        · exact absurd hc h0
        · exact hc
    · obtain ⟨⟨u, h1, h2⟩, h3⟩ := N.mem e
      exact ⟨⟨u, by simp [h1], h2⟩, h3⟩
    · rcases List.mem_append.1 hu with hu | hu
      · exact N.min e u hu h0 h1
      · simp at hu; subst hu
        rcases hc with hc | hc
        · exact absurd hc h0
        · omega
  · rename_i hc
    have hg : gd os h ≠ 0 := fun e => hc (.inl e)
    have hd : ¬ D (gd os h - 1) < 0 := fun e => hc (.inr e)
    split
    · rename_i hc2
      refine ⟨fun e => absurd e hg, fun e => ⟨⟨h, by simp, rfl⟩, by omega⟩, fun e u hu h0 h1 => ?_⟩
      rcases List.mem_append.1 hu with hu | hu
      · by_cases hb : b = 0
        · have := N.zero hb u hu h0
          omega
        · have := N.min hb u hu h0 h1
          omega
      · simp at hu; subst hu
        right; exact ⟨rfl, Nat.le_refl _⟩
    · rename_i hc2
      have hb : b ≠ 0 := fun e => hc2 (.inl e)
      refine ⟨fun e => absurd e hb, fun e => ?_, fun e u hu h0 h1 => ?_⟩
      · obtain ⟨⟨u, h1, h2⟩, h3⟩ := N.mem e
        exact ⟨⟨u, by simp [h1], h2⟩, h3⟩
      · rcases List.mem_append.1 hu with hu | hu
        · exact N.min e u hu h0 h1
        · simp at hu; subst hu
          omega
theorem ns_fold {os : List Ob} {D : Nat → Int} : ∀ (l s : List Int) (b : Nat), Ns os D s b → Ns os D (s ++ l) (l.foldl (ner os D) b)
  | [], s, b, N => by simpa using N
  | h :: l, s, b, N => by
    have := ns_fold l (s ++ [h]) _ (N.step h)
    simpa using this
theorem nears_ns (os : List Ob) (D : Nat → Int) (l : List Int) : Ns os D l (nears os D l) := by
  have := ns_fold (os := os) (D := D) l [] 0 ⟨fun _ u hu => by simp at hu, fun e => absurd rfl e, fun e => absurd rfl e⟩
  simpa [nears] using this
theorem Pt.rc {os : List Ob} {fr l : List Int} {k : Int} (h : Pt os fr l k) : Rc os fr k.toNat := by
  induction h with
  | @root h h1 h2 => rw [Int.toNat_natCast]; exact .root h1 h2
  | step _ h2 h3 h4 ih => rw [Int.toNat_natCast]; exact .step ih h2 h3 h4
theorem pa_dn {os : List Ob} {tg : Int} {g : Nat} {r : List Int} (h0 : g ≠ 0) (h : Pa os tg (g : Int) r) : Dn os tg (g - 1) r.length :=
  ⟨r, by rw [show (((g - 1 : Nat) : Int) + 1) = (g : Int) by omega]; exact h, rfl⟩
theorem dn_pa {os : List Ob} {tg : Int} {g m : Nat} (h0 : g ≠ 0) (h : Dn os tg (g - 1) m) : ∃ r, Pa os tg (g : Int) r ∧ r.length = m := by
  obtain ⟨r, h1, h2⟩ := h
  rw [show (((g - 1 : Nat) : Int) + 1) = (g : Int) by omega] at h1
  exact ⟨r, h1, h2⟩
theorem nears_none {c : Vc} {tg : Int} {D : Nat → Int} (F : FarD c.os tg D) (h : Wl c tg []) : nears c.os D (rts c) = 0 := by
  have N := nears_ns c.os D (rts c)
  by_cases hb : nears c.os D (rts c) = 0
  · exact hb
  · exfalso
    obtain ⟨⟨u, h1, h2⟩, h3⟩ := N.mem hb
    rcases F with ⟨F, _⟩ | ⟨q, n, rfl, hu, F, hno⟩
    · rw [F] at h3; omega
    · have hg : gd c.os u ≠ 0 := by rw [h2]; exact hb
      rw [← h2] at h3
      rcases fd_end F hno (gd_us hg) with ⟨h4, _⟩ | ⟨m, h4, h5⟩
      · omega
      · obtain ⟨r, h6, _⟩ := dn_pa hg h5.1
        have hR := ((Pt.root h1 hg).join h6).rc
        rcases h with ⟨_, h⟩ | ⟨s, q', e, hA, G, hC⟩
        · have := usA_lt hu
          exact h ⟨by omega, by omega, hR⟩
        · rcases Ch.cases hC with ⟨h7, _⟩ | ⟨_, l', h7, _⟩
          · omega
          · simp at h7
theorem nears_way {c : Vc} {tg : Int} {D : Nat → Int} {w : List Int} (F : FarD c.os tg D) (h : Wl c tg w) {i : Nat} {k : Int} (hk : w[i]? = some k) : (nears c.os D (cur c.os (rts c) w i) : Int) = k := by
  obtain ⟨hP, ⟨u0, hu0, e0, z0⟩, hmin⟩ := wl_near h hk
  have W := wf_of h
  have hlt := (List.getElem?_eq_some_iff.1 hk).1
  have N := nears_ns c.os D (cur c.os (rts c) w i)
  obtain ⟨q0, e1, hq0, hrb⟩ := W.some.1 (by omega)
  have hus : usA c.os q0 = true := by
    have := (rb_iff c.os (rts c) q0).1 hrb
    obtain ⟨_, _, o, h1, h2⟩ := this.pos
    simp at h1
    simp [usA, h1, h2]
  rcases F with ⟨_, F⟩ | ⟨q, n, e2, hu, F, hno⟩
  · exact absurd ⟨q0, e1, hus⟩ F
  · subst e0
    have hP1 := pa_dn z0 hP
    rcases fd_end F hno (gd_us z0) with ⟨_, h4⟩ | ⟨m, h4, h5⟩
    · exact absurd hP1 (h4 _)
    · have hm : (w.drop (i + 1)).length = m := by
        obtain ⟨r, h6, h7⟩ := dn_pa z0 h5.1
        have := hmin u0 hu0 z0 r h6
        by_cases e : (w.drop (i + 1)).length < m
        · exact absurd hP1 (h5.2 _ e)
        · omega
      have hb : nears c.os D (cur c.os (rts c) w i) ≠ 0 := fun e => by
        have := N.zero e u0 hu0 z0
        omega
      obtain ⟨⟨u1, hu1, e3⟩, h8⟩ := N.mem hb
      have h9 := N.min hb u0 hu0 z0 (by omega)
      rw [← e3] at h8 h9 ⊢
      have z1 : gd c.os u1 ≠ 0 := by rw [e3]; exact hb
      rcases fd_end F hno (gd_us z1) with ⟨h10, _⟩ | ⟨m1, h10, h11⟩
      · omega
      · obtain ⟨r, h12, h13⟩ := dn_pa z1 h11.1
        have := hmin u1 hu1 z1 r h12
        omega
end Gr
end Go.Proofs.Ytakgidhblkjjbaa
