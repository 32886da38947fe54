/-
  Graph, pure: the way that a walk tells is the least of the shortest; each of its places is the nearest.
-/
import Derived.Test.YtakgidhblkjjbaaGrLn
namespace Go.Proofs.Ytakgidhblkjjbaa
open Go.RowKit
set_option linter.unusedVariables false
set_option linter.unusedSimpArgs false
namespace Gr
/-- Of the same length, and no greater. -/
def Lx : List Int → List Int → Prop
  | [], [] => True
  | x :: a, y :: b => (x < y ∧ a.length = b.length) ∨ (x = y ∧ Lx a b)
  | _, _ => False
theorem Lx.len : ∀ {a b : List Int}, Lx a b → a.length = b.length
  | [], [], _ => rfl
  | x :: a, y :: b, h => by
    rcases h with h | h
    · simp [h.2]
    · simp [Lx.len h.2]
  | [], _ :: _, h => h.elim
  | _ :: _, [], h => h.elim
theorem Lx.refl : ∀ a : List Int, Lx a a
  | [] => trivial
  | x :: a => .inr ⟨rfl, Lx.refl a⟩
theorem Lx.trans : ∀ {a b c : List Int}, Lx a b → Lx b c → Lx a c
  | [], [], [], _, _ => trivial
  | x :: a, y :: b, z :: c, h, g => by
    rcases h with h | h <;> rcases g with g | g
    · exact .inl ⟨by omega, by rw [h.2, g.2]⟩
    · exact .inl ⟨by omega, by rw [h.2, Lx.len g.2]⟩
    · exact .inl ⟨by omega, by rw [Lx.len h.2, g.2]⟩
    · exact .inr ⟨by omega, Lx.trans h.2 g.2⟩
  | [], _ :: _, _, h, _ => h.elim
  | _ :: _, [], _, h, _ => h.elim
  | [], [], _ :: _, _, g => g.elim
  | _ :: _, _ :: _, [], _, g => g.elim
theorem Lx.snoc {k k' : Int} (hk : k ≤ k') : ∀ {a b : List Int}, Lx a b → Lx (a ++ [k]) (b ++ [k'])
  | [], [], _ => by
    by_cases e : k = k'
    · exact .inr ⟨e, trivial⟩
    · exact .inl ⟨by omega, rfl⟩
  | x :: a, y :: b, h => by
    rcases h with h | h
    · exact .inl ⟨h.1, by simp [h.2]⟩
    · exact .inr ⟨h.1, Lx.snoc hk h.2⟩
  | [], _ :: _, h => h.elim
  | _ :: _, [], h => h.elim
theorem Lx.snocne {k k' : Int} : ∀ {a b : List Int}, Lx a b → a ≠ b → Lx (a ++ [k]) (b ++ [k'])
  | [], [], _, n => absurd rfl n
  | x :: a, y :: b, h, n => by
    rcases h with h | h
    · exact .inl ⟨h.1, by simp [h.2]⟩
    · exact .inr ⟨h.1, Lx.snocne h.2 (fun e => n (by rw [h.1, e]))⟩
  | [], _ :: _, h, _ => h.elim
  | _ :: _, [], h, _ => h.elim
theorem Lx.at {x y : Int} {t r : List Int} : ∀ {p : List Int}, Lx (p ++ x :: t) (p ++ y :: r) → x ≤ y
  | [], h => by
    rcases h with h | h <;> omega
  | z :: p, h => by
    rcases h with h | h
    · omega
    · exact Lx.at h.2
/-- Shorter, or of the same length and no greater. -/
def Sl (a b : List Int) : Prop := a.length < b.length ∨ Lx a b
theorem Sl.trans {a b c : List Int} (h : Sl a b) (g : Sl b c) : Sl a c := by
  rcases h with h | h <;> rcases g with g | g
  · exact .inl (by omega)
  · exact .inl (by rw [← g.len]; exact h)
  · exact .inl (by rw [h.len]; exact g)
  · exact .inr (h.trans g)
theorem Sl.snoc {a b : List Int} {k k' : Int} (h : Sl a b) (hk : k ≤ k') : Sl (a ++ [k]) (b ++ [k']) := by
  rcases h with h | h
  · exact .inl (by simpa using h)
  · exact .inr (h.snoc hk)
theorem Sl.snocne {a b : List Int} {k k' : Int} (h : Sl a b) (n : a ≠ b) : Sl (a ++ [k]) (b ++ [k']) := by
  rcases h with h | h
  · exact .inl (by simpa using h)
  · exact .inr (h.snocne n)
theorem Ch.det {s : Wk} : ∀ {k : Int} {l l' : List Int}, Ch s k l → Ch s k l' → l = l' := by
  intro k l l' h
  induction h generalizing l' with
  | nil =>
    intro g
    cases g with
    | nil => rfl
    | cons h _ _ => omega
  | cons h1 h2 h3 ih =>
    intro g
    cases g with
    | nil => omega
    | cons _ _ g3 => rw [ih g3]
theorem Ch.inv {s : Wk} {k : Int} {l : List Int} (h : Ch s k l) (hk : 1 ≤ k) : ∃ l', l = k :: l' ∧ Ch s (s.a k) l' ∧ s.a k ≠ 0 := by
  cases h with
  | nil => omega
  | cons h1 h2 h3 => exact ⟨_, rfl, h3, h2⟩
theorem Ch.none {s : Wk} {l : List Int} (h : Ch s (-1) l) : l = [] := by
  cases h with
  | nil => rfl
  | cons h _ _ => omega
/-- Who stands ahead in the line has the lesser way. -/
theorem ch_sl {os : List Ob} {fr : List Int} {at' : Nat} {s : Wk} (G : Gi os fr at' s) : ∀ (i' i : Nat) (k k' : Int) (l l' : List Int), i ≤ i' → s.ln[i]? = some k → s.ln[i']? = some k' → Ch s k l → Ch s k' l' → Sl l.reverse l'.reverse := by
  intro i'
  induction i' using Nat.strongRecOn with
  | ind i' ih =>
    intro i k k' l l' hii hi hi' hl hl'
    by_cases e : i = i'
    · subst e
      rw [hi] at hi'
      cases hi'
      rw [hl.det hl']
      exact .inr (Lx.refl _)
    · have hr := G.rng k (List.mem_of_getElem? hi)
      have hr' := G.rng k' (List.mem_of_getElem? hi')
      obtain ⟨m, rfl, hm, h0⟩ := hl.inv hr.1
      obtain ⟨m', rfl, hm', h0'⟩ := hl'.inv hr'.1
      rw [List.reverse_cons, List.reverse_cons]
      rcases G.ord i i' k k' (by omega) hi hi' with ⟨h1, h2⟩ | ⟨h1, h2⟩ | ⟨j, j', h1, h2, h3⟩
      · rw [h1] at hm
        rw [hm.det hm']
        exact Sl.snoc (.inr (Lx.refl _)) (by omega)
      · rw [h1] at hm
        rw [hm.none]
        left
        rcases hm'.cases with ⟨h3, _⟩ | ⟨_, m2, rfl, _⟩
        · exact absurd h3 h2
        · simp
      · have hp := G.rng _ (List.mem_of_getElem? h2)
        have hp' := G.rng _ (List.mem_of_getElem? h3)
        have hj : j' < i' := by
          rcases G.tree i' k' hi' with ⟨h4, _⟩ | ⟨j'', p, o, h, _, h5, h6, h7, _⟩
          · omega
          · rw [← h7] at h6
            have := nd_inj G.nd h3 h6
            omega
        refine Sl.snocne (ih j' hj j _ _ m m' (by omega) h2 h3 hm hm') (fun e => ?_)
        have e := List.reverse_inj.1 e
        obtain ⟨t, rfl, _⟩ := hm.inv hp.1
        obtain ⟨t', rfl, _⟩ := hm'.inv hp'.1
        simp at e
        rw [e.1] at h2
        have := nd_inj G.nd h2 h3
        omega
/-- A way from the first handles. -/
inductive Pt (os : List Ob) (fr : List Int) : List Int → Int → Prop
  | root {h : Int} : h ∈ fr → gd os h ≠ 0 → Pt os fr [(gd os h : Int)] (gd os h : Int)
  | step {l : List Int} {k : Int} {o : Ob} {h : Int} : Pt os fr l k → os[k.toNat - 1]? = some o → h ∈ o.sl → gd os h ≠ 0 → Pt os fr (l ++ [(gd os h : Int)]) (gd os h : Int)
theorem Pt.pos {os : List Ob} {fr : List Int} {l : List Int} {k : Int} (h : Pt os fr l k) : 1 ≤ k ∧ 0 < l.length := by
  cases h with
  | root _ h => exact ⟨by omega, by simp⟩
  | step _ _ _ h => exact ⟨by omega, by simp⟩
theorem pt_least {os : List Ob} {fr : List Int} {s : Wk} (G : Gi os fr s.ln.length s) {l : List Int} {k : Int} (h : Pt os fr l k) : ∃ c, Ch s k c ∧ Sl c.reverse l := by
  induction h with
  | @root h h1 h2 =>
    have e := G.fst h h1 h2
    exact ⟨[_], .cons (by omega) (by rw [e]; omega) (by rw [e]; exact .nil), .inr (Lx.refl _)⟩
  | @step l k o h hp ho hh h0 ih =>
    obtain ⟨c, hc, hs⟩ := ih
    have hk := hp.pos
    obtain ⟨c', rfl, hc', ha⟩ := hc.inv hk.1
    have hin := (G.me k hk.1).2 ha
    obtain ⟨j, hj⟩ := List.mem_iff_getElem?.1 hin
    rcases G.nxt j k o h (List.getElem?_eq_some_iff.1 hj).1 hj ho hh h0 with e | ⟨j', h1, h2⟩
    · exact ⟨[_], .cons (by omega) (by rw [e]; omega) (by rw [e]; exact .nil), .inl (by simp; exact hk.2)⟩
    · have hr := G.rng _ (List.mem_of_getElem? h2)
      obtain ⟨d, hd⟩ := ch_pos G j' _ h2
      refine ⟨(gd os h : Int) :: d, .cons (by omega) (by omega) hd, ?_⟩
      rw [List.reverse_cons]
      exact ((ch_sl G j j' _ _ _ _ h1 h2 hj hd hc).trans hs).snoc (Int.le_refl _)
/-- A way on, from one object to another. -/
inductive Pa (os : List Ob) (tg : Int) : Int → List Int → Prop
  | nil : Pa os tg tg []
  | cons {k : Int} {o : Ob} {h : Int} {l : List Int} : os[k.toNat - 1]? = some o → h ∈ o.sl → gd os h ≠ 0 → Pa os tg (gd os h : Int) l → Pa os tg k ((gd os h : Int) :: l)
theorem Pt.join {os : List Ob} {fr : List Int} {tg : Int} : ∀ {r : List Int} {l : List Int} {k : Int}, Pt os fr l k → Pa os tg k r → Pt os fr (l ++ r) tg
  | [], l, k, h, g => by
    cases g
    simpa using h
  | x :: r, l, k, h, g => by
    cases g with
    | cons h1 h2 h3 h4 =>
      have := Pt.join (h.step h1 h2 h3) h4
      simpa using this
theorem slo_mem {os : List Ob} {k h : Int} (hh : h ∈ slo os k) : ∃ o, os[k.toNat - 1]? = some o ∧ h ∈ o.sl := by
  unfold slo at hh
  split at hh
  · rename_i o ho; exact ⟨o, ho, hh⟩
  · simp at hh
theorem Le.pt {os : List Ob} {fr w : List Int} (L : Le os fr w) : ∀ (i : Nat) (k : Int), w[i]? = some k → Pt os fr (w.take (i + 1)) k
  | 0, k, hk => by
    obtain ⟨h, h1, h2, h3⟩ := L.led 0 k hk
    have := L.pos k (List.mem_of_getElem? hk)
    have e : k = (gd os h : Int) := by omega
    cases w with
    | nil => simp at hk
    | cons x w =>
      simp at hk
      subst hk
      simp only [List.take_succ_cons, List.take_zero]
      rw [e]
      exact .root h1 h3
  | i + 1, k, hk => by
    have hlt := (List.getElem?_eq_some_iff.1 hk).1
    obtain ⟨h, h1, h2, h3⟩ := L.led (i + 1) k hk
    have := L.pos k (List.mem_of_getElem? hk)
    have e : k = (gd os h : Int) := by omega
    obtain ⟨p, hp⟩ : ∃ p, w[i]? = some p := ⟨w[i]'(by omega), by simp [show i < w.length by omega]⟩
    have ih := Le.pt L i p hp
    simp only [cur, hp, Option.getD_some] at h1
    obtain ⟨o, ho, hh⟩ := slo_mem h1
    have g := ih.step ho hh h3
    rw [← e] at g
    have t : w.take (i + 1 + 1) = w.take (i + 1) ++ [k] := by
      rw [List.take_add_one, hk]
      rfl
    rw [t]
    exact g
theorem Le.more {os : List Ob} {fr w : List Int} (L : Le os fr w) {i : Nat} (hi : i ≤ w.length) {h : Int} (hh : h ∈ cur os fr w i) (h0 : gd os h ≠ 0) : Pt os fr (w.take i ++ [(gd os h : Int)]) (gd os h : Int) := by
  cases i with
  | zero =>
    have g : Pt os fr [(gd os h : Int)] (gd os h : Int) := Pt.root hh h0
    simpa using g
  | succ i =>
    obtain ⟨p, hp⟩ : ∃ p, w[i]? = some p := ⟨w[i]'(by omega), by simp [show i < w.length by omega]⟩
    simp only [cur, hp, Option.getD_some] at hh
    obtain ⟨o, ho, hh⟩ := slo_mem hh
    exact (L.pt i p hp).step ho hh h0
theorem Le.pa {os : List Ob} {fr w : List Int} (L : Le os fr w) {tg : Int} (hl : w[w.length - 1]? = some tg) : ∀ (n i : Nat) (k : Int), w.length = i + 1 + n → w[i]? = some k → Pa os tg k (w.drop (i + 1))
  | 0, i, k, hn, hk => by
    have : w.length - 1 = i := by omega
    rw [this, hk] at hl
    cases hl
    rw [List.drop_eq_nil_of_le (by omega)]
    exact .nil
  | n + 1, i, k, hn, hk => by
    obtain ⟨x, hx⟩ : ∃ x, w[i + 1]? = some x := ⟨w[i + 1]'(by omega), by simp [show i + 1 < w.length by omega]⟩
    have ih := Le.pa L hl n (i + 1) x (by omega) hx
    obtain ⟨h, h1, h2, h3⟩ := L.led (i + 1) x hx
    have := L.pos x (List.mem_of_getElem? hx)
    have e : x = (gd os h : Int) := by omega
    simp only [cur, hk, Option.getD_some] at h1
    obtain ⟨o, ho, hh⟩ := slo_mem h1
    have t : w.drop (i + 1) = x :: w.drop (i + 1 + 1) := by
      rw [List.drop_eq_getElem_cons (by omega)]
      have := (List.getElem?_eq_some_iff.1 hx).2
      rw [this]
    rw [t, e]
    rw [e] at ih
    exact .cons ho hh h3 ih
/-- Each place of the way that a walk tells: none of those that could stand there is nearer to the end, nor as near and lower. -/
theorem wl_near {c : Vc} {tg : Int} {w : List Int} (h : Wl c tg w) {i : Nat} {k : Int} (hk : w[i]? = some k) : Pa c.os tg k (w.drop (i + 1)) ∧ (∃ u ∈ cur c.os (rts c) w i, (gd c.os u : Int) = k ∧ gd c.os u ≠ 0) ∧ ∀ u ∈ cur c.os (rts c) w i, gd c.os u ≠ 0 → ∀ r, Pa c.os tg (gd c.os u : Int) r → (w.drop (i + 1)).length < r.length ∨ ((w.drop (i + 1)).length = r.length ∧ k ≤ (gd c.os u : Int)) := by
  have W := wf_of h
  have hlt := (List.getElem?_eq_some_iff.1 hk).1
  have L := W.le
  obtain ⟨u0, m0, e0, z0⟩ := L.led i k hk
  have hk1 := L.pos k (List.mem_of_getElem? hk)
  refine ⟨L.pa (W.last (by omega)) (w.length - (i + 1)) i k (by omega) hk, ⟨u0, m0, by omega, z0⟩, ?_⟩
  intro u hu h0 r hr
  rcases h with ⟨rfl, _⟩ | ⟨s, q, rfl, hA, G, hC⟩
  · simp at hk
  · have hP := (L.more (by omega) hu h0).join hr
    obtain ⟨d, hd, hs⟩ := pt_least G hP
    have e := hC.det hd
    rw [← e, List.reverse_reverse] at hs
    have hl : (w.take i ++ [(gd c.os u : Int)] ++ r).length = i + 1 + r.length := by
      simp only [List.length_append, List.length_take, List.length_cons, List.length_nil]
      omega
    rw [List.length_drop]
    rcases hs with hs | hs
    · rw [hl] at hs
      left; omega
    · have hle := hs.len
      rw [hl] at hle
      right
      refine ⟨by omega, ?_⟩
      have t : w = w.take i ++ k :: w.drop (i + 1) := by
        have h2 := (List.getElem?_eq_some_iff.1 hk).2
        rw [← h2, ← List.drop_eq_getElem_cons hlt, List.take_append_drop]
      rw [List.append_assoc, List.singleton_append] at hs
      generalize hwt : w.take i = p at hs t
      generalize w.drop (i + 1) = t2 at t
      rw [t] at hs
      exact hs.at
end Gr
end Go.Proofs.Ytakgidhblkjjbaa
