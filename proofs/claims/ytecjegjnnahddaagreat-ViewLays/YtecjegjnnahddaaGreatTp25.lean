/-
  Lemmas: VwLm.
-/
import Derived.Test.YtecjegjnnahddaaGreatTp20
import Derived.Test.YtecjegjnnahddaaGreatTp24
/-
  View: ViewLays: lent lists of words and of numbers
-/
namespace Go.Proofs.YtecjegjnnahddaaGreat
open Go.RowKit
set_option linter.unusedVariables false
set_option linter.unusedSimpArgs false
set_option linter.unnecessarySimpa false
set_option maxRecDepth 20000
namespace Vw
open Shape
theorem newsN {w : World} {ao : Option Addr} {l : List Int} (h : SeesN w ao l) : ∀ ad, ao = some ad → ∀ j u, (ncs l)[j]? = some u → w.cell? (ad.add j) = some u := by
  intro ad hao j u hu
  obtain ⟨x, hx, rfl⟩ : ∃ x, l[j]? = some x ∧ u = .int .i64 x := by
    simp only [ncs, List.getElem?_map, Option.map_eq_some_iff] at hu
    obtain ⟨x, h1, h2⟩ := hu
    exact ⟨x, h1, h2.symm⟩
  obtain ⟨b, off, e, hb, hc⟩ := h j x hx
  rw [hao] at e
  cases e
  rw [Go.WideShapes.add_plain]
  exact hc
theorem ncs_app (l m : List Int) : ncs l ++ ncs m = ncs (l ++ m) := by simp [ncs]
set_option maxHeartbeats 4000000 in
theorem numbers_ok {w : World} {ao : Option Addr} {cap : Nat} {l : List Int} (S : SeesN w ao l) (hnil : ao = none → l.length = 0 ∧ cap = 0) (hb : (l.length + 1) * 8 ≤ 140737488355328) :
    Calls Tryz.prog 14 #[.slice ao l.length cap] w fun e w' => (∃ g c, e = .returned (.slice (some ⟨g, 0, none⟩) l.length c) ∧ l.length < c ∧ Hid (w'.ownsRow w.heap.size 3 1 (.slice (some ⟨g, 0, none⟩) (l.length + 1) c) (l.length + 1) (ncs (l ++ [-777])))) ∧ Below w.heap.size w w' := by
  have HS := hide S
  have hlen : (ncs l).length = l.length * 1 := by simp [ncs]
  have NEW := hide (newsN (S.below ((Below.refl _ w).alloc (Nat.le_refl _) (.cells #[] 3))))
  obtain ⟨n, hn⟩ : ∃ n, l.length = n := ⟨_, rfl⟩
  rw [hn] at hnil hb hlen ⊢
  have HL := hide hlen
  have HN := hide hnil
  clear S hnil hlen hn
  obtain ⟨iU, hiU, hzU, hsU, hyU⟩ := infoI
  have hlen : (n : Int) ≤ 9223372036854775807 := by omega
  go_enter Tryz.func14, Tryz.ntmps14
  go_wp2_with (first
    | (at_builtin; refine wpList_append_opt rfl (.tmp 3) (.tmp 4) 28 rfl w.heap.size 3 iU (.int .i64 0) 1 8 Tryz.underlying28 hiU hzU hsU hyU rfl (by decide) (.slice (some ⟨w.heap.size, 0, none⟩) 0 0) 0 [] rfl (by have := World.ownsRow_lit (base := w.heap.size) (e := 3) (size := 1) w #[] 0 (by simp) (by unfold maxLen; omega) rfl; simpa using this) ao n cap (ncs l) rfl HN.out HL.out NEW.out (ncs_one l) (by unfold maxLen; omega) (by omega) (by simp) ?_; intro v4 w4 hown4 hgrow4 hnn; rw [Nat.zero_add, List.nil_append] at hown4; obtain ⟨g4, c4, rfl, hg4, _⟩ := owned_some hown4 (fun he => by have := hnn he; cases this); have B4 := hide (show Below w.heap.size w w4 from ((Below.refl _ w).alloc (Nat.le_refl _) (.cells #[] 3)).grown hgrow4 (by simp) (by simp [Value.ownBlock])); have O4 := hide hown4; clear hown4 hgrow4 hnn)
    | (at_builtin; refine wpList_append_opt rfl (.tmp 5) (.tmp 6) 28 rfl w.heap.size 3 iU (.int .i64 0) 1 8 Tryz.underlying28 hiU hzU hsU hyU rfl (by decide) (.slice (some ⟨g4, 0, none⟩) n c4) n (ncs l) rfl (O4.out.alloc _) (some ⟨w4.heap.size, 0, none⟩) 1 1 (ncs [-777]) rfl (fun h => by cases h) rfl (fun ad had q u hu => by cases had; exact cell_one_new w4 _ _ q u hu) (ncs_one _) (by unfold maxLen; omega) (by omega) (by have := B4.out.size; simp; omega) ?_; intro v5 w5 hown5 hgrow5 hnn5; rw [ncs_app] at hown5; obtain ⟨g5, c5, rfl, hg5, hc5, _⟩ := owned_some hown5 (fun he => by have := hnn5 he; cases this); have R5 := hide hown5; have B5 := hide (below_grown (B4.out.alloc B4.out.size _) (O4.out.alloc _) hgrow5 (by have := B4.out.size; simp; omega)); clear hown5 hgrow5 hnn5))
  go_ret
  exact ⟨⟨g5, c5, rfl, by omega, R5.out⟩, B5.out⟩
/-- A lent list of words, with its mark, from block lo on. -/
def Ln (w : World) (lo n : Nat) (f : Nat → Int) (v : Value) : Prop := ∃ g cap, v = .slice (some ⟨g, 0, none⟩) n cap ∧ n < cap ∧ w.ownsRow lo 24 1 (.slice (some ⟨g, 0, none⟩) (n + 1) cap) (n + 1) (wcs (n + 1) (marked n f))
/-- .. of numbers. -/
def Li (w : World) (lo : Nat) (l : List Int) (v : Value) : Prop := ∃ g cap, v = .slice (some ⟨g, 0, none⟩) l.length cap ∧ l.length < cap ∧ w.ownsRow lo 3 1 (.slice (some ⟨g, 0, none⟩) (l.length + 1) cap) (l.length + 1) (ncs (l ++ [-777]))
section
variable {w w' : World} {lo n : Nat} {f : Nat → Int} {l : List Int} {v : Value}
theorem Ln.on (h : Ln w lo n f v) (hb : Below w.heap.size w w') : Ln w' lo n f v := by
  obtain ⟨g, cap, e, hc, ho⟩ := h
  exact ⟨g, cap, e, hc, owns_on ho hb⟩
theorem Li.on (h : Li w lo l v) (hb : Below w.heap.size w w') : Li w' lo l v := by
  obtain ⟨g, cap, e, hc, ho⟩ := h
  exact ⟨g, cap, e, hc, owns_on ho hb⟩
theorem Ln.set (h : Ln w lo n f v) {vb i : Nat} (hv : vb < lo) (u : Value) : Ln (w.setCell ⟨vb, i, none⟩ u) lo n f v := by
  obtain ⟨g, cap, e, hc, ho⟩ := h
  exact ⟨g, cap, e, hc, owns_set ho hv _⟩
theorem Li.set (h : Li w lo l v) {vb i : Nat} (hv : vb < lo) (u : Value) : Li (w.setCell ⟨vb, i, none⟩ u) lo l v := by
  obtain ⟨g, cap, e, hc, ho⟩ := h
  exact ⟨g, cap, e, hc, owns_set ho hv _⟩
theorem Ln.kpS (h : Ln w lo n f v) (hk : ∀ e' size' v' n' xs', ¬ e' = 25 → w.ownsRow lo e' size' v' n' xs' → w'.ownsRow lo e' size' v' n' xs') : Ln w' lo n f v := by
  obtain ⟨g, cap, e, hc, ho⟩ := h
  exact ⟨g, cap, e, hc, hk _ _ _ _ _ (by decide) ho⟩
theorem Ln.kpO (h : Ln w lo n f v) (hk : ∀ e' size' v' n' xs', ¬ e' = 46 → w.ownsRow lo e' size' v' n' xs' → w'.ownsRow lo e' size' v' n' xs') : Ln w' lo n f v := by
  obtain ⟨g, cap, e, hc, ho⟩ := h
  exact ⟨g, cap, e, hc, hk _ _ _ _ _ (by decide) ho⟩
theorem Ln.low {lo' : Nat} (h : Ln w lo n f v) (hl : lo' ≤ lo) : Ln w lo' n f v := by
  obtain ⟨g, cap, e, hc, ho⟩ := h
  exact ⟨g, cap, e, hc, owns_low ho hl⟩
theorem Ln.sees {ao : Option Addr} {cap : Nat} (h : Ln w lo n f (.slice ao n cap)) : Sees w w.heap.size ao n f := by
  obtain ⟨g, cp, e, hc, ho⟩ := h
  cases e
  exact lent_sees ho
theorem Li.sees {ao : Option Addr} {cap : Nat} (h : Li w lo l (.slice ao l.length cap)) : SeesN w ao l := by
  obtain ⟨g, cp, e, hc, ho⟩ := h
  cases e
  intro j x hx
  obtain ⟨b, e, _, hl, hc2, _⟩ := owns_cell ho (i := j) (u := .int .i64 x) (ncs_get (by rw [List.getElem?_append_left (List.getElem?_eq_some_iff.1 hx).1]; exact hx))
  cases e
  exact ⟨g, 0, rfl, hl, by rw [Nat.zero_add]; exact hc2⟩
end
/-- A copy of a view: lists of its own, each with a mark behind it. -/
structure Mk (w : World) (lo : Nat) (c : Cv) (a : Av) : Prop where
  ac : Ln w lo c.na c.ac (.slice a.aa c.na a.ca)
  rt : ∃ rs, w.ownsRow lo 25 1 (.slice a.ra c.nr a.cr) c.nr rs ∧ ∀ j, j < c.nr → ∃ v, rs[j]? = some v ∧ Ln w lo (c.rn j) (c.rt j) v
  wk : Ln w lo c.nw c.wk (.slice a.wa c.nw a.cw)
  ob : ∃ os, w.ownsRow lo 46 9 (.slice a.oa c.no a.cb) c.no os ∧ ∀ j, j < c.no → ∃ v, (∀ q, q < 9 → os[j * 9 + q]? = some ((c.ob j).cell v q)) ∧ Ln w lo (c.ob j).ns (c.ob j).sl v
  fr : Li w lo c.fr (.slice a.fa c.fr.length a.cf)
  gr : Li w lo c.gr (.slice a.ga c.gr.length a.cg)
  qu : Li w lo c.qu (.slice a.qa c.qu.length a.cq)
theorem Mk.keep {w w' : World} {lo : Nat} {c : Cv} {a : Av} (h : Mk w lo c a) (hk : ∀ b, b < w.heap.size → lo ≤ b → w'.heap[b]? = w.heap[b]?) : Mk w' lo c a := by
  have kn : ∀ {n f v}, Ln w lo n f v → Ln w' lo n f v := fun {n f v} h => by
    obtain ⟨g, cap, e, hc, ho⟩ := h
    exact ⟨g, cap, e, hc, owns_keep ho hk⟩
  have ki : ∀ {l v}, Li w lo l v → Li w' lo l v := fun {l v} h => by
    obtain ⟨g, cap, e, hc, ho⟩ := h
    exact ⟨g, cap, e, hc, owns_keep ho hk⟩
  obtain ⟨rs, h1, h2⟩ := h.rt
  obtain ⟨os, h3, h4⟩ := h.ob
  refine ⟨kn h.ac, ⟨rs, owns_keep h1 hk, fun j hj => ?_⟩, kn h.wk, ⟨os, owns_keep h3 hk, fun j hj => ?_⟩, ki h.fr, ki h.gr, ki h.qu⟩
  · obtain ⟨v, e, hl⟩ := h2 j hj
    exact ⟨v, e, kn hl⟩
  · obtain ⟨v, e, hl⟩ := h4 j hj
    exact ⟨v, e, kn hl⟩
theorem Mk.low {w : World} {lo lo' : Nat} {c : Cv} {a : Av} (h : Mk w lo c a) (hl : lo' ≤ lo) : Mk w lo' c a := by
  have kn : ∀ {n f v}, Ln w lo n f v → Ln w lo' n f v := fun h => h.low hl
  have ki : ∀ {l v}, Li w lo l v → Li w lo' l v := fun {l v} h => by
    obtain ⟨g, cap, e, hc, ho⟩ := h
    exact ⟨g, cap, e, hc, owns_low ho hl⟩
  obtain ⟨rs, h1, h2⟩ := h.rt
  obtain ⟨os, h3, h4⟩ := h.ob
  exact ⟨kn h.ac, ⟨rs, owns_low h1 hl, fun j hj => by obtain ⟨v, e, hl⟩ := h2 j hj; exact ⟨v, e, kn hl⟩⟩, kn h.wk, ⟨os, owns_low h3 hl, fun j hj => by obtain ⟨v, e, hl⟩ := h4 j hj; exact ⟨v, e, kn hl⟩⟩, ki h.fr, ki h.gr, ki h.qu⟩
theorem Mk.shows {w : World} {lo : Nat} {c : Cv} {a : Av} (h : Mk w lo c a) : Shows w c a := by
  obtain ⟨rs, h1, h2⟩ := h.rt
  obtain ⟨os, h3, h4⟩ := h.ob
  refine ⟨h.ac.sees, fun j hj => ?_, h.wk.sees, fun j hj => ?_, h.fr.sees, h.gr.sees, h.qu.sees⟩
  · obtain ⟨v, e, g, cap, rfl, hc, ho⟩ := h2 j hj
    obtain ⟨b, e1, _, hl, hc1, _⟩ := owns_cell h1 e
    exact ⟨b, 0, _, _, e1, hl, by rw [Nat.zero_add]; exact hc1, lent_sees ho⟩
  · obtain ⟨v, e, g, cap, rfl, hc, ho⟩ := h4 j hj
    obtain ⟨b, e1, _, hl, hc1, _⟩ := owns_cell h3 (e 0 (by decide))
    refine ⟨b, 0, some ⟨g, 0, none⟩, cap, e1, hl, fun q hq => ?_, lent_sees ho⟩
    obtain ⟨b2, e2, _, _, hc2, _⟩ := owns_cell h3 (e q hq)
    rw [e1] at e2
    cases e2
    rw [show 0 + j * 9 + q = j * 9 + q by omega]
    exact hc2
end Vw
end Go.Proofs.YtecjegjnnahddaaGreat
