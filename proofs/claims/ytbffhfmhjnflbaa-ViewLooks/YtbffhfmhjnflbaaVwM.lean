/-
  View: a view in memory: what is seen of it, what is owned of it; a memory's value; copied, the package's and the document's.
-/
import Derived.Test.YtbffhfmhjnflbaaLb
import Derived.Test.YtbffhfmhjnflbaaVwN
import Derived.Test.YtbffhfmhjnflbaaWordV
import Derived.Maps.AppendAt
import Derived.Laws.CopyOwn
import Derived.Laws.AppendOwnNone
namespace Go.Proofs.Ytbffhfmhjnflbaa
open Go.RowKit
set_option linter.unusedVariables false
set_option linter.unusedSimpArgs false
set_option linter.unnecessarySimpa false
set_option maxRecDepth 20000
namespace Vw
open Shape

def wcs (n : Nat) (f : Nat → Int) : List Value := (List.range n).map fun i => Value.int .u64 (f i)
def ncs (l : List Int) : List Value := l.map fun c => Value.int .i64 c
theorem wcs_len (n : Nat) (f : Nat → Int) : (wcs n f).length = n := by simp [wcs]
theorem ncs_len (l : List Int) : (ncs l).length = l.length := by simp [ncs]
theorem wcs_get {n : Nat} (f : Nat → Int) {j : Nat} (h : j < n) : (wcs n f)[j]? = some (.int .u64 (f j)) := by simp [wcs, h]
theorem wcs_one (n : Nat) (f : Nat → Int) : ∀ u ∈ wcs n f, u.oneCell' = true := by intro u hu; obtain ⟨i, _, rfl⟩ := List.mem_map.1 hu; rfl
theorem ncs_one (l : List Int) : ∀ u ∈ ncs l, u.oneCell' = true := by intro u hu; obtain ⟨i, _, rfl⟩ := List.mem_map.1 hu; rfl
theorem ncs_more (l : List Int) (c : Int) : ncs (l ++ [c]) = ncs l ++ [.int .i64 c] := by simp [ncs]
theorem ncs_get {l : List Int} {j : Nat} {c : Int} (h : l[j]? = some c) : (ncs l)[j]? = some (.int .i64 c) := by simp [ncs, h]

def Ob.cell (b : Ob) (sv : Value) : Nat → Value
  | 0 => .bool b.us
  | 1 => .bool b.li
  | 2 => .bool b.fi
  | 3 => .bool b.ta
  | 4 => .int .i64 b.ag
  | 5 => .int .u64 b.ge
  | 6 => .int .u64 b.lk
  | 7 => .int .u64 b.nx
  | _ => sv
def Ob.cells (b : Ob) (sv : Value) : List Value := [.bool b.us, .bool b.li, .bool b.fi, .bool b.ta, .int .i64 b.ag, .int .u64 b.ge, .int .u64 b.lk, .int .u64 b.nx, sv]
theorem Ob.cells_get (b : Ob) (sv : Value) {q : Nat} (h : q < 9) : (b.cells sv)[q]? = some (b.cell sv q) := by
  match q, h with
  | 0, _ => rfl
  | 1, _ => rfl
  | 2, _ => rfl
  | 3, _ => rfl
  | 4, _ => rfl
  | 5, _ => rfl
  | 6, _ => rfl
  | 7, _ => rfl
  | 8, _ => rfl

/-- Where a view's lists lie. -/
structure Av where
  aa : Option Addr
  ca : Nat
  ra : Option Addr
  cr : Nat
  wa : Option Addr
  cw : Nat
  oa : Option Addr
  cb : Nat
  fa : Option Addr
  cf : Nat
  ga : Option Addr
  cg : Nat
  qa : Option Addr
  cq : Nat
def vl (c : Cv) (a : Av) : Value := .agg #[.int .i64 c.ph, .int .i64 c.co, .int .u64 c.ro, .slice a.aa c.na a.ca, .slice a.ra c.nr a.cr, .slice a.wa c.nw a.cw, .slice a.oa c.no a.cb, .slice a.fa c.fr.length a.cf, .slice a.ga c.gr.length a.cg, .slice a.qa c.qu.length a.cq, .int .u64 (c.cn 0), .int .u64 (c.cn 1), .int .u64 (c.cn 2), .int .u64 (c.cn 3)]

/-- Numbers as they are seen. -/
def SeesN (w : World) (ao : Option Addr) (l : List Int) : Prop :=
  ∀ j c, l[j]? = some c → ∃ b off, ao = some ⟨b, off, none⟩ ∧ b < w.heap.size ∧ w.cell? ⟨b, off + j, none⟩ = some (.int .i64 c)
theorem SeesN.below {w w' : World} {ao : Option Addr} {l : List Int} (h : SeesN w ao l) (hb : Below w.heap.size w w') : SeesN w' ao l :=
  fun j c hj => by obtain ⟨b, off, e, hl, hc⟩ := h j c hj; exact ⟨b, off, e, Nat.lt_of_lt_of_le hl hb.size, (hb.cell (p := ⟨b, off + j, none⟩) hl).trans hc⟩
theorem sees_on {w w' : World} {ao : Option Addr} {n : Nat} {f : Nat → Int} (h : Sees w w.heap.size ao n f) (hb : Below w.heap.size w w') : Sees w' w'.heap.size ao n f := (h.below hb (Nat.le_refl _)).mono hb.size

/-- A view as it is seen. -/
structure Shows (w : World) (c : Cv) (a : Av) : Prop where
  ac : Sees w w.heap.size a.aa c.na c.ac
  rt : ∀ j, j < c.nr → ∃ b off ai ci, a.ra = some ⟨b, off, none⟩ ∧ b < w.heap.size ∧ w.cell? ⟨b, off + j, none⟩ = some (.slice ai (c.rn j) ci) ∧ Sees w w.heap.size ai (c.rn j) (c.rt j)
  wk : Sees w w.heap.size a.wa c.nw c.wk
  ob : ∀ j, j < c.no → ∃ b off ai ci, a.oa = some ⟨b, off, none⟩ ∧ b < w.heap.size ∧ (∀ q, q < 9 → w.cell? ⟨b, off + j * 9 + q, none⟩ = some ((c.ob j).cell (.slice ai (c.ob j).ns ci) q)) ∧ Sees w w.heap.size ai (c.ob j).ns (c.ob j).sl
  fr : SeesN w a.fa c.fr
  gr : SeesN w a.ga c.gr
  qu : SeesN w a.qa c.qu
theorem Shows.below {w w' : World} {c : Cv} {a : Av} (h : Shows w c a) (hb : Below w.heap.size w w') : Shows w' c a := by
  refine ⟨sees_on h.ac hb, fun j hj => ?_, sees_on h.wk hb, fun j hj => ?_, h.fr.below hb, h.gr.below hb, h.qu.below hb⟩
  · obtain ⟨b, off, ai, ci, e, hl, hc, hs⟩ := h.rt j hj
    exact ⟨b, off, ai, ci, e, Nat.lt_of_lt_of_le hl hb.size, (hb.cell (p := ⟨b, off + j, none⟩) hl).trans hc, sees_on hs hb⟩
  · obtain ⟨b, off, ai, ci, e, hl, hc, hs⟩ := h.ob j hj
    exact ⟨b, off, ai, ci, e, Nat.lt_of_lt_of_le hl hb.size, fun q hq => (hb.cell (p := ⟨b, off + j * 9 + q, none⟩) hl).trans (hc q hq), sees_on hs hb⟩

/-- A view in memory of one's own, from block lo on. -/
structure Owns (w : World) (lo : Nat) (c : Cv) (a : Av) : Prop where
  ac : w.ownsRow lo 27 1 (.slice a.aa c.na a.ca) c.na (wcs c.na c.ac)
  rt : ∃ rs, w.ownsRow lo 24 1 (.slice a.ra c.nr a.cr) c.nr rs ∧ ∀ j, j < c.nr → ∃ ai ci, rs[j]? = some (.slice ai (c.rn j) ci) ∧ w.ownsRow lo 27 1 (.slice ai (c.rn j) ci) (c.rn j) (wcs (c.rn j) (c.rt j))
  wk : w.ownsRow lo 27 1 (.slice a.wa c.nw a.cw) c.nw (wcs c.nw c.wk)
  ob : ∃ os, w.ownsRow lo 57 9 (.slice a.oa c.no a.cb) c.no os ∧ ∀ j, j < c.no → ∃ ai ci, (∀ q, q < 9 → os[j * 9 + q]? = some ((c.ob j).cell (.slice ai (c.ob j).ns ci) q)) ∧ w.ownsRow lo 27 1 (.slice ai (c.ob j).ns ci) (c.ob j).ns (wcs (c.ob j).ns (c.ob j).sl)
  fr : w.ownsRow lo 3 1 (.slice a.fa c.fr.length a.cf) c.fr.length (ncs c.fr)
  gr : w.ownsRow lo 3 1 (.slice a.ga c.gr.length a.cg) c.gr.length (ncs c.gr)
  qu : w.ownsRow lo 3 1 (.slice a.qa c.qu.length a.cq) c.qu.length (ncs c.qu)

theorem owns_cell {w : World} {lo : Nat} {e : TypeId} {size : Nat} {ao : Option Addr} {n cap : Nat} {xs : List Value} (h : w.ownsRow lo e size (.slice ao n cap) n xs) {i : Nat} {u : Value} (hi : xs[i]? = some u) : ∃ b, ao = some ⟨b, 0, none⟩ ∧ lo ≤ b ∧ b < w.heap.size ∧ w.cell? ⟨b, i, none⟩ = some u ∧ w.frozen? ⟨b, i, none⟩ = false := by
  obtain ⟨hl, ⟨h1, rfl⟩ | ⟨g, cap', cur, h1, hb, hg, hc, hm, hs, ht⟩⟩ := h
  · have := (List.getElem?_eq_some_iff.1 hi).1
    simp at hl
    subst hl
    simp at this
  · cases h1
    have hil := (List.getElem?_eq_some_iff.1 hi).1
    refine ⟨g, rfl, hb, (Array.getElem?_eq_some_iff.1 hg).1, ?_, ?_⟩
    · rw [← ht] at hi
      rw [List.getElem?_take] at hi
      split at hi
      · simp only [World.cell?, hg]
        simpa using hi
      · cases hi
    · simp [World.frozen?, hg]
theorem owns_sees {w : World} {lo : Nat} {ao : Option Addr} {n cap : Nat} {f : Nat → Int} (h : w.ownsRow lo 27 1 (.slice ao n cap) n (wcs n f)) : Sees w w.heap.size ao n f := by
  intro j hj
  obtain ⟨b, e, _, hl, hc, _⟩ := owns_cell h (wcs_get f hj)
  exact ⟨b, 0, e, hl, by simpa using hc⟩
theorem owns_seesN {w : World} {lo : Nat} {ao : Option Addr} {cap : Nat} {l : List Int} (h : w.ownsRow lo 3 1 (.slice ao l.length cap) l.length (ncs l)) : SeesN w ao l := by
  intro j c hj
  obtain ⟨b, e, _, hl, hc, _⟩ := owns_cell h (ncs_get hj)
  exact ⟨b, 0, e, hl, by simpa using hc⟩
theorem Owns.shows {w : World} {lo : Nat} {c : Cv} {a : Av} (h : Owns w lo c a) : Shows w c a := by
  refine ⟨owns_sees h.ac, fun j hj => ?_, owns_sees h.wk, fun j hj => ?_, owns_seesN h.fr, owns_seesN h.gr, owns_seesN h.qu⟩
  · obtain ⟨rs, h1, h2⟩ := h.rt
    obtain ⟨ai, ci, h3, h4⟩ := h2 j hj
    obtain ⟨b, e, _, hl, hc, _⟩ := owns_cell h1 h3
    exact ⟨b, 0, ai, ci, e, hl, by simpa using hc, owns_sees h4⟩
  · obtain ⟨os, h1, h2⟩ := h.ob
    obtain ⟨ai, ci, h3, h4⟩ := h2 j hj
    obtain ⟨b, e, _, hl, _, _⟩ := owns_cell h1 (h3 0 (by decide))
    refine ⟨b, 0, ai, ci, e, hl, fun q hq => ?_, owns_sees h4⟩
    obtain ⟨b', e', _, hl', hc, _⟩ := owns_cell h1 (h3 q hq)
    rw [e] at e'
    cases e'
    simpa using hc
theorem owns_keep {w w' : World} {base : Nat} {e : TypeId} {size : Nat} {v : Value} {n : Nat} {xs : List Value} (h : w.ownsRow base e size v n xs) (hk : ∀ b, b < w.heap.size → base ≤ b → w'.heap[b]? = w.heap[b]?) : w'.ownsRow base e size v n xs := by
  obtain ⟨hl, h | ⟨g, cap, cur, rfl, hb, hg, hc, hm, hs, ht⟩⟩ := h
  · exact ⟨hl, .inl h⟩
  · exact ⟨hl, .inr ⟨g, cap, cur, rfl, hb, by rw [hk g (Array.getElem?_eq_some_iff.1 hg).1 hb]; exact hg, hc, hm, hs, ht⟩⟩
theorem owns_on {w w' : World} {base : Nat} {e : TypeId} {size : Nat} {v : Value} {n : Nat} {xs : List Value} (h : w.ownsRow base e size v n xs) (hb : Below w.heap.size w w') : w'.ownsRow base e size v n xs := owns_keep h (fun b hb' _ => hb.block b hb')
theorem owns_low {w : World} {base lo : Nat} {e : TypeId} {size : Nat} {v : Value} {n : Nat} {xs : List Value} (h : w.ownsRow base e size v n xs) (hl : lo ≤ base) : w.ownsRow lo e size v n xs := by
  obtain ⟨hl', h | ⟨g, cap, cur, rfl, hb, hg, hc, hm, hs, ht⟩⟩ := h
  · exact ⟨hl', .inl h⟩
  · exact ⟨hl', .inr ⟨g, cap, cur, rfl, Nat.le_trans hl hb, hg, hc, hm, hs, ht⟩⟩
/-- Rows of two types lie in two blocks. -/
theorem owns_ne {w : World} {b1 b2 : Nat} {e1 e2 : TypeId} {s1 s2 : Nat} {v1 v2 : Value} {n1 n2 : Nat} {x1 x2 : List Value} (h : w.ownsRow b1 e1 s1 v1 n1 x1) (h' : w.ownsRow b2 e2 s2 v2 n2 x2) (hne : ¬ e1 = e2) : v1.ownBlock = none ∨ v1.ownBlock ≠ v2.ownBlock := by
  obtain ⟨_, ⟨rfl, _⟩ | ⟨g, cap, cur, rfl, hb, hg, _⟩⟩ := h
  · exact .inl rfl
  · obtain ⟨_, ⟨rfl, _⟩ | ⟨g', cap', cur', rfl, hb', hg', _⟩⟩ := h'
    · exact .inr (by simp [Value.ownBlock])
    · refine .inr (fun e => ?_)
      simp [Value.ownBlock] at e
      subst e
      rw [hg] at hg'
      injection hg' with hg'
      injection hg' with _ h2 _
      exact hne h2
theorem Owns.keep {w w' : World} {lo : Nat} {c : Cv} {a : Av} (h : Owns w lo c a) (hk : ∀ b, b < w.heap.size → lo ≤ b → w'.heap[b]? = w.heap[b]?) : Owns w' lo c a := by
  refine ⟨owns_keep h.ac hk, ?_, owns_keep h.wk hk, ?_, owns_keep h.fr hk, owns_keep h.gr hk, owns_keep h.qu hk⟩
  · obtain ⟨rs, h1, h2⟩ := h.rt
    exact ⟨rs, owns_keep h1 hk, fun j hj => by obtain ⟨ai, ci, h3, h4⟩ := h2 j hj; exact ⟨ai, ci, h3, owns_keep h4 hk⟩⟩
  · obtain ⟨os, h1, h2⟩ := h.ob
    exact ⟨os, owns_keep h1 hk, fun j hj => by obtain ⟨ai, ci, h3, h4⟩ := h2 j hj; exact ⟨ai, ci, h3, owns_keep h4 hk⟩⟩
theorem Owns.below {w w' : World} {lo : Nat} {c : Cv} {a : Av} (h : Owns w lo c a) (hb : Below w.heap.size w w') : Owns w' lo c a := h.keep (fun b hb' _ => hb.block b hb')

theorem infoU : ∃ i, Try.prog.info? 27 = some i ∧ i.zero = some (.int .u64 0) ∧ i.size = 1 ∧ i.bytes = 8 := by
  have h : (Try.prog.info? 27).map (fun i => (i.zero, i.size, i.bytes)) = some (some (.int .u64 0), 1, 8) := by kernel_rfl
  cases hp : Try.prog.info? 27 with
  | none => rw [hp] at h; cases h
  | some i => rw [hp] at h; simp at h; exact ⟨i, rfl, h.1, h.2.1, h.2.2⟩
theorem infoI : ∃ i, Try.prog.info? 3 = some i ∧ i.zero = some (.int .i64 0) ∧ i.size = 1 ∧ i.bytes = 8 := by
  have h : (Try.prog.info? 3).map (fun i => (i.zero, i.size, i.bytes)) = some (some (.int .i64 0), 1, 8) := by kernel_rfl
  cases hp : Try.prog.info? 3 with
  | none => rw [hp] at h; cases h
  | some i => rw [hp] at h; simp at h; exact ⟨i, rfl, h.1, h.2.1, h.2.2⟩
theorem infoS : ∃ i, Try.prog.info? 24 = some i ∧ i.zero = some (.slice none 0 0) ∧ i.size = 1 ∧ i.bytes = 24 := by
  have h : (Try.prog.info? 24).map (fun i => (i.zero, i.size, i.bytes)) = some (some (.slice none 0 0), 1, 24) := by kernel_rfl
  cases hp : Try.prog.info? 24 with
  | none => rw [hp] at h; cases h
  | some i => rw [hp] at h; simp at h; exact ⟨i, rfl, h.1, h.2.1, h.2.2⟩
theorem infoO : ∃ i z, Try.prog.info? 57 = some i ∧ i.zero = some z ∧ i.size = 9 ∧ i.bytes = 64 ∧ z.cells.size = 9 := by
  have h : (Try.prog.info? 57).map (fun i => (i.zero.map (fun z => z.cells.size), i.size, i.bytes)) = some (some 9, 9, 64) := by kernel_rfl
  cases hp : Try.prog.info? 57 with
  | none => rw [hp] at h; cases h
  | some i =>
    rw [hp] at h
    simp at h
    obtain ⟨⟨z, h1, h2⟩, h3, h4⟩ := h
    exact ⟨i, z, rfl, h1, h3, h4, h2⟩
theorem news_of {w : World} {B : Nat} {ao : Option Addr} {n : Nat} {f : Nat → Int} (h : Sees w B ao n f) : ∀ ad, ao = some ad → ∀ j u, (wcs n f)[j]? = some u → w.cell? (ad.add j) = some u := by
  intro ad hao j u hu
  have hj : j < n := by have := (List.getElem?_eq_some_iff.1 hu).1; simpa [wcs] using this
  obtain ⟨b, off, he, hbl, hcc⟩ := h j hj
  rw [hao] at he
  cases he
  have : u = .int .u64 (f j) := by rw [wcs_get f hj] at hu; cases hu; rfl
  subst this
  rw [Go.WideShapes.add_plain]
  exact hcc
end Vw
end Go.Proofs.Ytbffhfmhjnflbaa
