/-
  Graph, pure: the document's search, a list of what is to do.
-/
import Derived.Test.YtlbcjolbgeficaaGrN
namespace Go.Proofs.Ytlbcjolbgeficaa
set_option linter.unusedVariables false
set_option linter.unusedSimpArgs false
namespace Gr
theorem puts_facts {os : List Ob} {ah : Int} {s : Wk} (ha : ah ≠ 0) (hm : Me s) (hn : s.ln.Nodup) (hr : ∀ k ∈ s.ln, 1 ≤ k ∧ k ≤ (os.length : Int)) (l : List Int) : (puts os ah s l).ln.Nodup ∧ ∀ k ∈ (puts os ah s l).ln, 1 ≤ k ∧ k ≤ (os.length : Int) := by
  obtain ⟨_, tl, P⟩ := puts_ps (os := os) ha l s hm
  constructor
  · rw [P.ln, List.nodup_append]
    refine ⟨hn, P.nd, ?_⟩
    intro a ha b hb e
    subst e
    exact (P.new a hb).1 ha
  · intro k hk
    rw [P.ln] at hk
    rcases List.mem_append.1 hk with hk | hk
    · exact hr k hk
    · obtain ⟨_, h1, h, _, _, h3⟩ := P.new k hk
      have := gd_le os h
      omega
structure Gj (os : List Ob) (fr : List Int) (at' : Nat) (s : Wk) : Prop where
  me : Me s
  nd : s.ln.Nodup
  le : at' ≤ s.ln.length
  rng : ∀ k ∈ s.ln, 1 ≤ k ∧ k ≤ (os.length : Int)
  rch : ∀ k ∈ s.ln, Rc os fr k.toNat
  fst : ∀ h ∈ fr, gd os h ≠ 0 → (gd os h : Int) ∈ s.ln
  nxt : ∀ (j : Nat) (p : Int) (o : Ob) (h : Int), j < at' → s.ln[j]? = some p → os[p.toNat - 1]? = some o → h ∈ o.sl → gd os h ≠ 0 → (gd os h : Int) ∈ s.ln
theorem Gj.len {os : List Ob} {fr : List Int} {at' : Nat} {s : Wk} (G : Gj os fr at' s) : s.ln.length ≤ os.length := len_le _ _ G.nd G.rng
theorem me0 : Me ⟨fun _ => 0, []⟩ := by intro k _; simp [Wk.a]
theorem gj_start (os : List Ob) (fr : List Int) : Gj os fr 0 (puts os 1 ⟨fun _ => 0, []⟩ fr) := by
  obtain ⟨hm, tl, P⟩ := puts_ps (os := os) (ah := 1) (by omega) fr ⟨fun _ => 0, []⟩ me0
  obtain ⟨h1, h2⟩ := puts_facts (os := os) (ah := 1) (s := ⟨fun _ => 0, []⟩) (by omega) me0 List.nodup_nil (by simp) fr
  refine ⟨hm, h1, Nat.zero_le _, h2, ?_, ?_, ?_⟩
  · intro k hk
    rw [P.ln] at hk
    simp at hk
    obtain ⟨_, h3, h, h4, h5, h6⟩ := P.new k hk
    rw [show k.toNat = gd os h by omega]
    exact .root h4 h5
  · intro h hh h0
    rw [P.ln]
    exact P.all h hh h0
  · intro j p o h hj
    omega
theorem gj_step {os : List Ob} {fr : List Int} {at' : Nat} {s : Wk} {p : Int} {o : Ob} (G : Gj os fr at' s) (hp : s.ln[at']? = some p) (ho : os[p.toNat - 1]? = some o) : Gj os fr (at' + 1) (puts os 1 s o.sl) := by
  obtain ⟨hm, tl, P⟩ := puts_ps (os := os) (ah := 1) (by omega) o.sl s G.me
  obtain ⟨h1, h2⟩ := puts_facts (os := os) (ah := 1) (by omega) G.me G.nd G.rng o.sl
  have hlt : at' < s.ln.length := (List.getElem?_eq_some_iff.1 hp).1
  refine ⟨hm, h1, by rw [P.ln]; simp; omega, h2, ?_, ?_, ?_⟩
  · intro k hk
    rw [P.ln] at hk
    rcases List.mem_append.1 hk with hk | hk
    · exact G.rch k hk
    · obtain ⟨_, h3, h, h4, h5, h6⟩ := P.new k hk
      rw [show k.toNat = gd os h by omega]
      exact .step (G.rch p (List.mem_of_getElem? hp)) ho h4 h5
  · intro h hh h0
    rw [P.ln]
    exact List.mem_append.2 (.inl (G.fst h hh h0))
  · intro j q o' h hj hq ho' hh h0
    rw [P.ln]
    by_cases hja : j < at'
    · rw [P.ln, List.getElem?_append_left (by omega)] at hq
      exact List.mem_append.2 (.inl (G.nxt j q o' h hja hq ho' hh h0))
    · obtain rfl : j = at' := by omega
      rw [P.ln, List.getElem?_append_left hlt, hp] at hq
      cases hq
      rw [ho] at ho'
      cases ho'
      exact P.all h hh h0
theorem Gj.rc {os : List Ob} {fr : List Int} {s : Wk} (G : Gj os fr s.ln.length s) (n : Nat) : s.A n ≠ 0 ↔ Rc os fr (n + 1) := by
  have hA : s.a ((n : Int) + 1) = s.A n := by
    have e : ((n : Int) + 1).toNat - 1 = n := by omega
    simp [Wk.a, e]
  constructor
  · intro h
    rw [← hA] at h
    have := G.rch _ ((G.me _ (by omega)).2 h)
    rw [show ((n : Int) + 1).toNat = n + 1 by omega] at this
    exact this
  · intro h
    have key : ∀ k, Rc os fr k → (k : Int) ∈ s.ln := by
      intro k hk
      induction hk with
      | root h1 h2 => exact G.fst _ h1 h2
      | @step k o h hk h2 h3 h4 ih =>
        obtain ⟨j, hj⟩ := List.mem_iff_getElem?.1 ih
        exact G.nxt j _ o h (List.getElem?_eq_some_iff.1 hj).1 hj (by simpa using h2) h3 h4
    have := (G.me _ (by omega)).1 (key _ h)
    rw [show ((n + 1 : Nat) : Int) = (n : Int) + 1 by omega, hA] at this
    exact this
end Gr
end Go.Proofs.Ytlbcjolbgeficaa
