/-
  Graph, pure: good handles, what is reached, a walk in a line and what it tells.
-/
import Derived.KernelRfl
namespace Go.Proofs.Ytlbcjolbgeficaa
set_option linter.unusedVariables false
set_option linter.unusedSimpArgs false
namespace Gr

structure Ob where
  us : Bool
  li : Bool
  fi : Bool
  ta : Bool
  ag : Int
  ge : Int
  lk : Int
  nx : Int
  sl : List Int

/-- The number of the object that a handle is good for; 0: none. -/
def gd (os : List Ob) (h : Int) : Nat :=
  match os[(h % 4294967296).toNat - 1]? with
  | some o => if 1 ≤ h % 4294967296 ∧ o.us = true ∧ o.ge = h / 4294967296 then (h % 4294967296).toNat else 0
  | none => 0
theorem gd_le (os : List Ob) (h : Int) : gd os h ≤ os.length := by
  unfold gd
  split
  · rename_i o ho
    split
    · have := (List.getElem?_eq_some_iff.1 ho).1
      omega
    · omega
  · omega
theorem gd_used {os : List Ob} {h : Int} (hg : gd os h ≠ 0) : ∃ o, os[gd os h - 1]? = some o ∧ o.us = true ∧ o.ge = h / 4294967296 := by
  cases ho : os[(h % 4294967296).toNat - 1]? with
  | none => simp [gd, ho] at hg
  | some o =>
    by_cases hc : 1 ≤ h % 4294967296 ∧ o.us = true ∧ o.ge = h / 4294967296
    · have e : gd os h = (h % 4294967296).toNat := by simp only [gd, ho]; rw [if_pos hc]
      rw [e]
      exact ⟨o, ho, hc.2.1, hc.2.2⟩
    · exact absurd (by simp only [gd, ho]; rw [if_neg hc]) hg

/-- What is reached from these handles. -/
inductive Rc (os : List Ob) (fr : List Int) : Nat → Prop
  | root {h : Int} : h ∈ fr → gd os h ≠ 0 → Rc os fr (gd os h)
  | step {k : Nat} {o : Ob} {h : Int} : Rc os fr k → os[k - 1]? = some o → h ∈ o.sl → gd os h ≠ 0 → Rc os fr (gd os h)
theorem Rc.pos {os : List Ob} {fr : List Int} {k : Nat} (h : Rc os fr k) : 1 ≤ k ∧ k ≤ os.length ∧ ∃ o, os[k - 1]? = some o ∧ o.us = true := by
  cases h with
  | root h1 h2 => obtain ⟨o, h3, h4, _⟩ := gd_used h2; exact ⟨by omega, gd_le _ _, o, h3, h4⟩
  | step h1 h2 h3 h4 => obtain ⟨o, h3, h4, _⟩ := gd_used h4; exact ⟨by omega, gd_le _ _, o, h3, h4⟩
theorem Rc.mono {os : List Ob} {fr fr' : List Int} (hs : ∀ h, h ∈ fr → h ∈ fr') {k : Nat} (h : Rc os fr k) : Rc os fr' k := by
  induction h with
  | root h1 h2 => exact .root (hs _ h1) h2
  | step _ h2 h3 h4 ih => exact .step ih h2 h3 h4
theorem Rc.app {os : List Ob} {a b : List Int} {k : Nat} : Rc os (a ++ b) k ↔ Rc os a k ∨ Rc os b k := by
  constructor
  · intro h
    induction h with
    | root h1 h2 =>
      rcases List.mem_append.1 h1 with h1 | h1
      · exact .inl (.root h1 h2)
      · exact .inr (.root h1 h2)
    | step _ h2 h3 h4 ih =>
      rcases ih with ih | ih
      · exact .inl (.step ih h2 h3 h4)
      · exact .inr (.step ih h2 h3 h4)
  · rintro (h | h)
    · exact h.mono (fun x hx => List.mem_append.2 (.inl hx))
    · exact h.mono (fun x hx => List.mem_append.2 (.inr hx))

def ud (A : Nat → Int) (n : Nat) (v : Int) : Nat → Int := fun j => if j = n then v else A j
/-- A walk under way: who stands ahead of each, and the line. -/
structure Wk where
  A : Nat → Int
  ln : List Int
def Wk.a (s : Wk) (k : Int) : Int := s.A (k.toNat - 1)
def put (os : List Ob) (ah : Int) (s : Wk) (h : Int) : Wk :=
  if gd os h ≠ 0 ∧ s.A (gd os h - 1) = 0 then ⟨ud s.A (gd os h - 1) ah, s.ln ++ [(gd os h : Int)]⟩ else s
def puts (os : List Ob) (ah : Int) (s : Wk) (l : List Int) : Wk := l.foldl (put os ah) s
theorem puts_snoc (os : List Ob) (ah : Int) (s : Wk) (l : List Int) (h : Int) : puts os ah s (l ++ [h]) = put os ah (puts os ah s l) h := by simp [puts]
def leI (x y : Int) : Bool := decide (x ≤ y)
def walk (os : List Ob) (ah : Int) (s : Wk) (l : List Int) : Wk :=
  ⟨(puts os ah s l).A, s.ln ++ ((puts os ah s l).ln.drop s.ln.length).mergeSort (fun x y => decide (x ≤ y))⟩

/-- Who is in the line has one ahead. -/
def Me (s : Wk) : Prop := ∀ k : Int, 1 ≤ k → (k ∈ s.ln ↔ s.a k ≠ 0)
theorem gd_cast {os : List Ob} {h : Int} (hg : gd os h ≠ 0) : (1 : Int) ≤ (gd os h : Int) := by omega
theorem put_me {os : List Ob} {ah : Int} {s : Wk} (hm : Me s) (ha : ah ≠ 0) (h : Int) : Me (put os ah s h) := by
  unfold put
  split
  · rename_i hc
    intro k hk
    simp only [List.mem_append, List.mem_singleton, Wk.a, ud]
    by_cases e : k = (gd os h : Int)
    · subst e
      simp [ha]
    · have e2 : ¬ k.toNat - 1 = gd os h - 1 := by omega
      rw [if_neg e2]
      simp only [e, or_false]
      exact hm k hk
  · exact hm
structure Ps (os : List Ob) (ah : Int) (s : Wk) (l : List Int) (t : Wk) (tl : List Int) : Prop where
  ln : t.ln = s.ln ++ tl
  nd : tl.Nodup
  new : ∀ k ∈ tl, k ∉ s.ln ∧ 1 ≤ k ∧ ∃ h ∈ l, gd os h ≠ 0 ∧ k = (gd os h : Int)
  A : ∀ k : Int, 1 ≤ k → t.a k = if k ∈ tl then ah else s.a k
  all : ∀ h ∈ l, gd os h ≠ 0 → (gd os h : Int) ∈ s.ln ++ tl
theorem puts_ps {os : List Ob} {ah : Int} (ha : ah ≠ 0) : ∀ (l : List Int) (s : Wk), Me s → Me (puts os ah s l) ∧ ∃ tl, Ps os ah s l (puts os ah s l) tl
  | [], s, hm => ⟨hm, [], by simp [puts], List.nodup_nil, by simp, by simp [puts], by simp⟩
  | h :: l, s, hm => by
    have hm1 := put_me (os := os) hm ha h
    obtain ⟨hm2, tl, ih⟩ := puts_ps ha l (put os ah s h) hm1
    have e : puts os ah s (h :: l) = puts os ah (put os ah s h) l := rfl
    rw [e]
    refine ⟨hm2, ?_⟩
    by_cases hc : gd os h ≠ 0 ∧ s.A (gd os h - 1) = 0
    · have ep : put os ah s h = ⟨ud s.A (gd os h - 1) ah, s.ln ++ [(gd os h : Int)]⟩ := by unfold put; rw [if_pos hc]
      rw [ep] at ih ⊢
      have hnot : (gd os h : Int) ∉ s.ln := by
        intro hin
        have := (hm _ (gd_cast hc.1)).1 hin
        simp only [Wk.a] at this
        rw [Int.toNat_natCast] at this
        exact this hc.2
      refine ⟨(gd os h : Int) :: tl, by rw [ih.ln]; simp, ?_, ?_, ?_, ?_⟩
      · rw [List.nodup_cons]
        refine ⟨fun hin => ?_, ih.nd⟩
        exact (ih.new _ hin).1 (by simp)
      · intro k hk
        rcases List.mem_cons.1 hk with rfl | hk
        · exact ⟨hnot, gd_cast hc.1, h, by simp, hc.1, rfl⟩
        · obtain ⟨h1, h2, x, h3, h4⟩ := ih.new k hk
          exact ⟨fun hin => h1 (by simp [hin]), h2, x, by simp [h3], h4⟩
      · intro k hk
        rw [ih.A k hk]
        by_cases hin : k ∈ tl
        · rw [if_pos hin, if_pos (by simp [hin])]
        · rw [if_neg hin]
          by_cases e2 : k = (gd os h : Int)
          · rw [if_pos (by simp [e2])]
            subst e2
            simp [Wk.a, ud]
          · rw [if_neg (by simp [e2, hin])]
            have e3 : ¬ k.toNat - 1 = gd os h - 1 := by have := hc.1; omega
            simp [Wk.a, ud, e3]
      · intro x hx hx0
        rcases List.mem_cons.1 hx with rfl | hx
        · simp
        · have := ih.all x hx hx0
          simpa using this
    · have ep : put os ah s h = s := by unfold put; rw [if_neg hc]
      rw [ep] at ih ⊢
      refine ⟨tl, ih.ln, ih.nd, ?_, ih.A, ?_⟩
      · intro k hk
        obtain ⟨h1, h2, x, h3, h4⟩ := ih.new k hk
        exact ⟨h1, h2, x, by simp [h3], h4⟩
      · intro x hx hx0
        rcases List.mem_cons.1 hx with rfl | hx
        · have : s.A (gd os x - 1) ≠ 0 := fun e => hc ⟨hx0, e⟩
          have := (hm (gd os x : Int) (gd_cast hx0)).2 (by simpa [Wk.a] using this)
          exact List.mem_append.2 (.inl this)
        · exact ih.all x hx hx0

/-- What a walk adds: rising. -/
structure Ws (os : List Ob) (ah : Int) (s : Wk) (l : List Int) (t : Wk) (tl : List Int) : Prop extends Ps os ah s l t tl where
  up : tl.Pairwise (· < ·)
theorem walk_ws {os : List Ob} {ah : Int} (ha : ah ≠ 0) (l : List Int) (s : Wk) (hm : Me s) : Me (walk os ah s l) ∧ ∃ tl, Ws os ah s l (walk os ah s l) tl := by
  obtain ⟨hm2, tl, P⟩ := puts_ps (os := os) ha l s hm
  have e : (puts os ah s l).ln.drop s.ln.length = tl := by rw [P.ln]; simp
  have hp : (tl.mergeSort (fun x y => decide (x ≤ y))).Perm tl := List.mergeSort_perm _ _
  have hin : ∀ k, k ∈ tl.mergeSort (fun x y => decide (x ≤ y)) ↔ k ∈ tl := fun k => hp.mem_iff
  have hs : (tl.mergeSort (fun x y => decide (x ≤ y))).Pairwise (fun x y => decide (x ≤ y) = true) :=
    List.pairwise_mergeSort (fun a b c h1 h2 => by simp at *; omega) (fun a b => by simp; omega) tl
  have hnd : (tl.mergeSort (fun x y => decide (x ≤ y))).Nodup := hp.nodup_iff.2 P.nd
  unfold walk
  rw [e]
  refine ⟨?_, tl.mergeSort (fun x y => decide (x ≤ y)), ⟨rfl, hnd, ?_, ?_, ?_⟩, ?_⟩
  · intro k hk
    have := hm2 k hk
    rw [P.ln] at this
    simp only [List.mem_append, hin, Wk.a] at this ⊢
    exact this
  · intro k hk; exact P.new k ((hin k).1 hk)
  · intro k hk
    have := P.A k hk
    simp only [hin, Wk.a] at this ⊢
    exact this
  · intro h hh h0
    have := P.all h hh h0
    simp only [List.mem_append, hin] at this ⊢
    exact this
  · have h2 := hnd
    unfold List.Nodup at h2
    exact (hs.and h2).imp (fun h => by simp at h; omega)

/-- A walk under way, so many of the line looked at. -/
structure Gi (os : List Ob) (fr : List Int) (at' : Nat) (s : Wk) : Prop where
  me : Me s
  nd : s.ln.Nodup
  le : at' ≤ s.ln.length
  rng : ∀ k ∈ s.ln, 1 ≤ k ∧ k ≤ (os.length : Int)
  tree : ∀ (i : Nat) (k : Int), s.ln[i]? = some k → (s.a k = -1 ∧ ∃ h ∈ fr, gd os h = k.toNat) ∨ ∃ (j : Nat) (p : Int) (o : Ob) (h : Int), j < at' ∧ j < i ∧ s.ln[j]? = some p ∧ s.a k = p ∧ os[p.toNat - 1]? = some o ∧ h ∈ o.sl ∧ gd os h = k.toNat
  ord : ∀ (i i' : Nat) (k k' : Int), i < i' → s.ln[i]? = some k → s.ln[i']? = some k' → (s.a k = s.a k' ∧ k < k') ∨ (s.a k = -1 ∧ s.a k' ≠ -1) ∨ ∃ (j j' : Nat), j < j' ∧ s.ln[j]? = some (s.a k) ∧ s.ln[j']? = some (s.a k')
  fst : ∀ h ∈ fr, gd os h ≠ 0 → s.a (gd os h : Int) = -1
  nxt : ∀ (j : Nat) (p : Int) (o : Ob) (h : Int), j < at' → s.ln[j]? = some p → os[p.toNat - 1]? = some o → h ∈ o.sl → gd os h ≠ 0 → s.a (gd os h : Int) = -1 ∨ ∃ j', j' ≤ j ∧ s.ln[j']? = some (s.a (gd os h : Int))

theorem pair_get {l : List Int} (h : l.Pairwise (· < ·)) {i j : Nat} {a b : Int} (hij : i < j) (ha : l[i]? = some a) (hb : l[j]? = some b) : a < b := by
  obtain ⟨h1, rfl⟩ := List.getElem?_eq_some_iff.1 ha
  obtain ⟨h2, rfl⟩ := List.getElem?_eq_some_iff.1 hb
  exact List.pairwise_iff_getElem.1 h i j h1 h2 hij

theorem gi_start (os : List Ob) (fr : List Int) : Gi os fr 0 (walk os (-1) ⟨fun _ => 0, []⟩ fr) := by
  have hm0 : Me ⟨fun _ => 0, []⟩ := by intro k _; simp [Wk.a]
  obtain ⟨hm, tl, W⟩ := walk_ws (os := os) (ah := -1) (by omega) fr ⟨fun _ => 0, []⟩ hm0
  have e : (walk os (-1) ⟨fun _ => 0, []⟩ fr).ln = tl := by rw [W.ln]; simp
  have ha : ∀ k ∈ tl, (walk os (-1) ⟨fun _ => 0, []⟩ fr).a k = -1 := fun k hk => by rw [W.A k (W.new k hk).2.1, if_pos hk]
  refine ⟨hm, by rw [e]; exact W.nd, Nat.zero_le _, ?_, ?_, ?_, ?_, ?_⟩
  · intro k hk
    rw [e] at hk
    obtain ⟨_, h1, h, _, _, h3⟩ := W.new k hk
    have := gd_le os h
    omega
  · intro i k hk
    rw [e] at hk
    have hk := List.mem_of_getElem? hk
    obtain ⟨_, h1, h, h2, _, h3⟩ := W.new k hk
    exact .inl ⟨ha k hk, h, h2, by omega⟩
  · intro i i' k k' hii h1 h2
    rw [e] at h1 h2
    refine .inl ⟨?_, pair_get W.up hii h1 h2⟩
    rw [ha k (List.mem_of_getElem? h1), ha k' (List.mem_of_getElem? h2)]
  · intro h hh h0
    have := W.all h hh h0
    exact ha _ (by simpa using this)
  · intro j p o h hj
    omega

theorem gi_step {os : List Ob} {fr : List Int} {at' : Nat} {s : Wk} {p : Int} {o : Ob} (G : Gi os fr at' s) (hp : s.ln[at']? = some p) (ho : os[p.toNat - 1]? = some o) : Gi os fr (at' + 1) (walk os p s o.sl) := by
  have hpm := List.mem_of_getElem? hp
  have hp1 := G.rng p hpm
  obtain ⟨hm, tl, W⟩ := walk_ws (os := os) (ah := p) (by omega) o.sl s G.me
  obtain ⟨t, ht⟩ : ∃ t, walk os p s o.sl = t := ⟨_, rfl⟩
  rw [ht] at hm W ⊢
  have hlt : at' < s.ln.length := (List.getElem?_eq_some_iff.1 hp).1
  have old : ∀ k, k ∈ s.ln → t.a k = s.a k := fun k hk => by
    rw [W.A k (G.rng k hk).1, if_neg (fun hin => (W.new k hin).1 hk)]
  have new : ∀ k, k ∈ tl → t.a k = p := fun k hk => by rw [W.A k (W.new k hk).2.1, if_pos hk]
  have getL : ∀ i, i < s.ln.length → t.ln[i]? = s.ln[i]? := fun i hi => by rw [W.ln, List.getElem?_append_left hi]
  have getR : ∀ i, s.ln.length ≤ i → t.ln[i]? = tl[i - s.ln.length]? := fun i hi => by rw [W.ln, List.getElem?_append_right hi]
  have getS : ∀ i k, s.ln[i]? = some k → t.ln[i]? = some k := fun i k hk => by rw [getL i (List.getElem?_eq_some_iff.1 hk).1]; exact hk
  have hpn : p ≠ -1 := by omega
  refine ⟨hm, ?_, by rw [W.ln]; simp; omega, ?_, ?_, ?_, ?_, ?_⟩
  · rw [W.ln, List.nodup_append]
    refine ⟨G.nd, W.nd, ?_⟩
    intro a ha b hb e
    subst e
    exact (W.new a hb).1 ha
  · intro k hk
    rw [W.ln] at hk
    rcases List.mem_append.1 hk with hk | hk
    · exact G.rng k hk
    · obtain ⟨_, h1, h, _, _, h3⟩ := W.new k hk
      have := gd_le os h
      omega
  · intro i k hk
    by_cases hi : i < s.ln.length
    · rw [getL i hi] at hk
      have hkm := List.mem_of_getElem? hk
      rw [old k hkm]
      rcases G.tree i k hk with h | ⟨j, q, o', h, h1, h2, h3, h4⟩
      · exact .inl h
      · exact .inr ⟨j, q, o', h, by omega, h2, getS j q h3, h4⟩
    · rw [getR i (by omega)] at hk
      have hkm := List.mem_of_getElem? hk
      obtain ⟨_, h1, h, h2, _, h3⟩ := W.new k hkm
      exact .inr ⟨at', p, o, h, by omega, by omega, getS _ _ hp, new k hkm, ho, h2, by omega⟩
  · intro i i' k k' hii h1 h2
    by_cases hi' : i' < s.ln.length
    · rw [getL i (by omega)] at h1
      rw [getL i' hi'] at h2
      rw [old k (List.mem_of_getElem? h1), old k' (List.mem_of_getElem? h2)]
      rcases G.ord i i' k k' hii h1 h2 with h | h | ⟨j, j', hj, h3, h4⟩
      · exact .inl h
      · exact .inr (.inl h)
      · exact .inr (.inr ⟨j, j', hj, getS _ _ h3, getS _ _ h4⟩)
    · rw [getR i' (by omega)] at h2
      have hn' := new k' (List.mem_of_getElem? h2)
      by_cases hi : i < s.ln.length
      · rw [getL i hi] at h1
        rw [old k (List.mem_of_getElem? h1), hn']
        rcases G.tree i k h1 with h | ⟨j, q, o', h, h3, h4, h5, h6, _⟩
        · exact .inr (.inl ⟨h.1, hpn⟩)
        · exact .inr (.inr ⟨j, at', h3, by rw [h6]; exact getS _ _ h5, getS _ _ hp⟩)
      · rw [getR i (by omega)] at h1
        refine .inl ⟨by rw [new k (List.mem_of_getElem? h1), hn'], pair_get W.up (by omega) h1 h2⟩
  · intro h hh h0
    have h1 := G.fst h hh h0
    have h2 : (gd os h : Int) ∈ s.ln := (G.me _ (gd_cast h0)).2 (by rw [h1]; omega)
    rw [old _ h2]
    exact h1
  · intro j q o' h hj hq ho' hh h0
    by_cases hja : j < at'
    · rw [getL j (by omega)] at hq
      have h1 := G.nxt j q o' h hja hq ho' hh h0
      have h2 : (gd os h : Int) ∈ s.ln := (G.me _ (gd_cast h0)).2 (by
        rcases h1 with h1 | ⟨j', _, h1⟩
        · rw [h1]; omega
        · have := G.rng _ (List.mem_of_getElem? h1)
          omega)
      rw [old _ h2]
      rcases h1 with h1 | ⟨j', h3, h1⟩
      · exact .inl h1
      · exact .inr ⟨j', h3, getS _ _ h1⟩
    · obtain rfl : j = at' := by omega
      rw [getS _ _ hp] at hq
      cases hq
      rw [ho] at ho'
      cases ho'
      have h1 := W.all h hh h0
      rcases List.mem_append.1 h1 with h1 | h1
      · rw [old _ h1]
        obtain ⟨i, hi⟩ := List.mem_iff_getElem?.1 h1
        rcases G.tree i _ hi with h2 | ⟨j', q', o', h', h3, h4, h5, h6, _⟩
        · exact .inl h2.1
        · exact .inr ⟨j', by omega, by rw [h6]; exact getS _ _ h5⟩
      · rw [new _ h1]
        exact .inr ⟨j, Nat.le_refl _, getS _ _ hp⟩

theorem len_le : ∀ (o : Nat) (l : List Int), l.Nodup → (∀ c ∈ l, 1 ≤ c ∧ c ≤ (o : Int)) → l.length ≤ o
  | 0, [], _, _ => Nat.le_refl _
  | 0, c :: l, _, h => by have := h c (by simp); omega
  | o + 1, l, hn, h => by
    by_cases hm : ((o + 1 : Nat) : Int) ∈ l
    · have h5 := len_le o (l.erase ((o + 1 : Nat) : Int)) (hn.erase _) (fun c hc => by
        have h2 := (List.Nodup.mem_erase_iff hn).1 hc
        have h3 := h c h2.2
        have h4 := h2.1
        omega)
      rw [List.length_erase_of_mem hm] at h5
      omega
    · have h5 := len_le o l hn (fun c hc => by
        have h3 := h c hc
        have h4 : ¬ c = ((o + 1 : Nat) : Int) := fun e => hm (e ▸ hc)
        omega)
      omega
theorem Gi.len {os : List Ob} {fr : List Int} {at' : Nat} {s : Wk} (G : Gi os fr at' s) : s.ln.length ≤ os.length := len_le _ _ G.nd G.rng

/-- A walk that is over tells what is reached. -/
theorem Gi.rc {os : List Ob} {fr : List Int} {s : Wk} (G : Gi os fr s.ln.length s) (n : Nat) : s.A n ≠ 0 ↔ Rc os fr (n + 1) := by
  have hA : ∀ n : Nat, s.a ((n : Int) + 1) = s.A n := fun n => by
    have e : ((n : Int) + 1).toNat - 1 = n := by omega
    simp [Wk.a, e]
  have hB : ∀ k : Nat, k ≠ 0 → s.a (k : Int) ≠ 0 → s.A (k - 1) ≠ 0 := fun k h0 h => by
    have e : (k : Int).toNat - 1 = k - 1 := by omega
    simpa [Wk.a, e] using h
  constructor
  · intro h
    rw [← hA] at h
    have hm := (G.me _ (by omega)).2 h
    have key : ∀ (i : Nat) (k : Int), s.ln[i]? = some k → Rc os fr k.toNat := by
      intro i
      induction i using Nat.strongRecOn with
      | ind i ih =>
        intro k hk
        have hr := G.rng k (List.mem_of_getElem? hk)
        rcases G.tree i k hk with ⟨_, h, h1, h2⟩ | ⟨j, p, o, h, _, h2, h3, h4, h5, h6, h7⟩
        · rw [← h2]; exact .root h1 (by omega)
        · rw [← h7]; exact .step (ih j h2 p h3) h5 h6 (by omega)
    obtain ⟨i, hi⟩ := List.mem_iff_getElem?.1 hm
    have := key i _ hi
    have e : ((n : Int) + 1).toNat = n + 1 := by omega
    rw [e] at this
    exact this
  · intro h
    have key : ∀ k, Rc os fr k → s.a (k : Int) ≠ 0 := by
      intro k hk
      induction hk with
      | root h1 h2 => rw [G.fst _ h1 h2]; omega
      | @step k o h hk h2 h3 h4 ih =>
        have hk1 := hk.pos
        have hin := (G.me (k : Int) (by omega)).2 ih
        obtain ⟨j, hj⟩ := List.mem_iff_getElem?.1 hin
        rcases G.nxt j _ o h (List.getElem?_eq_some_iff.1 hj).1 hj (by simpa using h2) h3 h4 with h5 | ⟨j', _, h5⟩
        · rw [h5]; omega
        · have := G.rng _ (List.mem_of_getElem? h5)
          omega
    exact hB (n + 1) (by omega) (key _ h)
end Gr
end Go.Proofs.Ytlbcjolbgeficaa
