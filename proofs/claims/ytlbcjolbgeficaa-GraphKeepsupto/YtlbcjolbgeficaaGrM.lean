/-
  Graph: a view in memory: what is seen of it; rows of one's own.
-/
import Derived.Test.YtlbcjolbgeficaaGrN
import Derived.Test.YtlbcjolbgeficaaGrW
import Derived.Maps.AppendAt
import Derived.Laws.CopyOwn
import Derived.Laws.AppendOwnNone
namespace Go.Proofs.Ytlbcjolbgeficaa
open Go.RowKit
set_option linter.unusedVariables false
set_option linter.unusedSimpArgs false
set_option linter.unnecessarySimpa false
set_option maxRecDepth 20000
namespace Gr

def ucs (l : List Int) : List Value := l.map fun c => Value.int .u64 c
def ncs (l : List Int) : List Value := l.map fun c => Value.int .i64 c
theorem ucs_len (l : List Int) : (ucs l).length = l.length := by simp [ucs]
theorem ncs_len (l : List Int) : (ncs l).length = l.length := by simp [ncs]
theorem ucs_one (l : List Int) : ∀ u ∈ ucs l, u.oneCell' = true := by intro u hu; obtain ⟨i, _, rfl⟩ := List.mem_map.1 hu; rfl
theorem ncs_one (l : List Int) : ∀ u ∈ ncs l, u.oneCell' = true := by intro u hu; obtain ⟨i, _, rfl⟩ := List.mem_map.1 hu; rfl
theorem ncs_app (l m : List Int) : ncs (l ++ m) = ncs l ++ ncs m := by simp [ncs]
theorem ucs_app (l m : List Int) : ucs (l ++ m) = ucs l ++ ucs m := by simp [ucs]
theorem ncs_get {l : List Int} {j : Nat} {c : Int} (h : l[j]? = some c) : (ncs l)[j]? = some (.int .i64 c) := by simp [ncs, h]
theorem ucs_get {l : List Int} {j : Nat} {c : Int} (h : l[j]? = some c) : (ucs l)[j]? = some (.int .u64 c) := by simp [ucs, h]

/-- Words, numbers as they are seen. -/
def SeesU (w : World) (ao : Option Addr) (l : List Int) : Prop :=
  ∀ j c, l[j]? = some c → ∃ b off, ao = some ⟨b, off, none⟩ ∧ b < w.heap.size ∧ w.cell? ⟨b, off + j, none⟩ = some (.int .u64 c)
def SeesN (w : World) (ao : Option Addr) (l : List Int) : Prop :=
  ∀ j c, l[j]? = some c → ∃ b off, ao = some ⟨b, off, none⟩ ∧ b < w.heap.size ∧ w.cell? ⟨b, off + j, none⟩ = some (.int .i64 c)
def SeesB (w : World) (ao : Option Addr) (l : List Bool) : Prop :=
  ∀ j c, l[j]? = some c → ∃ b off, ao = some ⟨b, off, none⟩ ∧ b < w.heap.size ∧ w.cell? ⟨b, off + j, none⟩ = some (.bool c)
theorem SeesU.below {w w' : World} {ao : Option Addr} {l : List Int} (h : SeesU w ao l) (hb : Below w.heap.size w w') : SeesU w' ao l :=
  fun j c hj => by obtain ⟨b, off, e, hl, hc⟩ := h j c hj; exact ⟨b, off, e, Nat.lt_of_lt_of_le hl hb.size, (hb.cell (p := ⟨b, off + j, none⟩) hl).trans hc⟩
theorem SeesN.below {w w' : World} {ao : Option Addr} {l : List Int} (h : SeesN w ao l) (hb : Below w.heap.size w w') : SeesN w' ao l :=
  fun j c hj => by obtain ⟨b, off, e, hl, hc⟩ := h j c hj; exact ⟨b, off, e, Nat.lt_of_lt_of_le hl hb.size, (hb.cell (p := ⟨b, off + j, none⟩) hl).trans hc⟩
theorem SeesB.below {w w' : World} {ao : Option Addr} {l : List Bool} (h : SeesB w ao l) (hb : Below w.heap.size w w') : SeesB w' ao l :=
  fun j c hj => by obtain ⟨b, off, e, hl, hc⟩ := h j c hj; exact ⟨b, off, e, Nat.lt_of_lt_of_le hl hb.size, (hb.cell (p := ⟨b, off + j, none⟩) hl).trans hc⟩

def Ob.cell (b : Ob) (sv : Value) : Nat → Value
  | 0 => .bool b.us
  | 1 => .bool b.li
  | 2 => .bool b.fi
  | 3 => .bool b.ta
  | 4 => .int .i64 b.ag
  | 5 => .int .u64 b.ge
  | 6 => .int .u64 b.lk
  | 7 => .int .u64 b.nx
  | _ => sv
def Ob.cells (b : Ob) (sv : Value) : List Value := [.bool b.us, .bool b.li, .bool b.fi, .bool b.ta, .int .i64 b.ag, .int .u64 b.ge, .int .u64 b.lk, .int .u64 b.nx, sv]
theorem Ob.cells_get (b : Ob) (sv : Value) {q : Nat} (h : q < 9) : (b.cells sv)[q]? = some (b.cell sv q) := by
  match q, h with
  | 0, _ => rfl
  | 1, _ => rfl
  | 2, _ => rfl
  | 3, _ => rfl
  | 4, _ => rfl
  | 5, _ => rfl
  | 6, _ => rfl
  | 7, _ => rfl
  | 8, _ => rfl

/-- Where a view's lists lie; what stands beside them. -/
structure Av where
  ph : Int
  co : Int
  ro : Int
  aa : Option Addr
  na : Nat
  ca : Nat
  ra : Option Addr
  cr : Nat
  wa : Option Addr
  nw : Nat
  cw : Nat
  oa : Option Addr
  cb : Nat
  fa : Option Addr
  nf : Nat
  cf : Nat
  ga : Option Addr
  ng : Nat
  cg : Nat
  qa : Option Addr
  cq : Nat
  k0 : Int
  k1 : Int
  k2 : Int
  k3 : Int
/-- What graph reads of a view. -/
structure Vc where
  rs : List (List Int)
  os : List Ob
  qu : List Int
def vcl (c : Vc) (a : Av) : List Value := [.int .i64 a.ph, .int .i64 a.co, .int .u64 a.ro, .slice a.aa a.na a.ca, .slice a.ra c.rs.length a.cr, .slice a.wa a.nw a.cw, .slice a.oa c.os.length a.cb, .slice a.fa a.nf a.cf, .slice a.ga a.ng a.cg, .slice a.qa c.qu.length a.cq, .int .u64 a.k0, .int .u64 a.k1, .int .u64 a.k2, .int .u64 a.k3]
def vl (c : Vc) (a : Av) : Value := .agg #[.int .i64 a.ph, .int .i64 a.co, .int .u64 a.ro, .slice a.aa a.na a.ca, .slice a.ra c.rs.length a.cr, .slice a.wa a.nw a.cw, .slice a.oa c.os.length a.cb, .slice a.fa a.nf a.cf, .slice a.ga a.ng a.cg, .slice a.qa c.qu.length a.cq, .int .u64 a.k0, .int .u64 a.k1, .int .u64 a.k2, .int .u64 a.k3]

/-- Objects as they are seen. -/
def Sob (w : World) (oa : Option Addr) (os : List Ob) : Prop :=
  ∀ j o, os[j]? = some o → ∃ b off ai ci, oa = some ⟨b, off, none⟩ ∧ b < w.heap.size ∧ (∀ q, q < 9 → w.cell? ⟨b, off + j * 9 + q, none⟩ = some (o.cell (.slice ai o.sl.length ci) q)) ∧ SeesU w ai o.sl
theorem Sob.below {w w' : World} {oa : Option Addr} {os : List Ob} (h : Sob w oa os) (hb : Below w.heap.size w w') : Sob w' oa os := fun j o hj => by
  obtain ⟨b, off, ai, ci, e, hl, hc, hs⟩ := h j o hj
  exact ⟨b, off, ai, ci, e, Nat.lt_of_lt_of_le hl hb.size, fun q hq => (hb.cell (p := ⟨b, off + j * 9 + q, none⟩) hl).trans (hc q hq), hs.below hb⟩
/-- Lists of words as they are seen. -/
def Srt (w : World) (ra : Option Addr) (rs : List (List Int)) : Prop :=
  ∀ j l, rs[j]? = some l → ∃ b off ai ci, ra = some ⟨b, off, none⟩ ∧ b < w.heap.size ∧ w.cell? ⟨b, off + j, none⟩ = some (.slice ai l.length ci) ∧ SeesU w ai l
theorem Srt.below {w w' : World} {ra : Option Addr} {rs : List (List Int)} (h : Srt w ra rs) (hb : Below w.heap.size w w') : Srt w' ra rs := fun j o hj => by
  obtain ⟨b, off, ai, ci, e, hl, hc, hs⟩ := h j o hj
  exact ⟨b, off, ai, ci, e, Nat.lt_of_lt_of_le hl hb.size, (hb.cell (p := ⟨b, off + j, none⟩) hl).trans hc, hs.below hb⟩
/-- A view as it is seen. -/
structure Shows (w : World) (c : Vc) (a : Av) : Prop where
  rt : Srt w a.ra c.rs
  ob : Sob w a.oa c.os
  qu : SeesN w a.qa c.qu
theorem Shows.below {w w' : World} {c : Vc} {a : Av} (h : Shows w c a) (hb : Below w.heap.size w w') : Shows w' c a := ⟨h.rt.below hb, h.ob.below hb, h.qu.below hb⟩

/-- What bounds words. -/
def Wd (l : List Int) : Prop := ∀ u ∈ l, 0 ≤ u ∧ u < 18446744073709551616
/-- What bounds objects. -/
structure Bd (os : List Ob) : Prop where
  no : os.length ≤ 4398046511104
  ns : ∀ o ∈ os, o.sl.length ≤ 35184372088832
  sl : ∀ o ∈ os, Wd o.sl
  ge : ∀ o ∈ os, 0 ≤ o.ge ∧ o.ge < 18446744073709551616

theorem owns_cell {w : World} {lo : Nat} {e : TypeId} {size : Nat} {ao : Option Addr} {n cap : Nat} {xs : List Value} (h : w.ownsRow lo e size (.slice ao n cap) n xs) {i : Nat} {u : Value} (hi : xs[i]? = some u) : ∃ b, ao = some ⟨b, 0, none⟩ ∧ lo ≤ b ∧ b < w.heap.size ∧ w.cell? ⟨b, i, none⟩ = some u ∧ w.frozen? ⟨b, i, none⟩ = false := by
  obtain ⟨hl, ⟨h1, rfl⟩ | ⟨g, cap', cur, h1, hb, hg, hc, hm, hs, ht⟩⟩ := h
  · have := (List.getElem?_eq_some_iff.1 hi).1
    simp at hl
    subst hl
    simp at this
  · cases h1
    have hil := (List.getElem?_eq_some_iff.1 hi).1
    refine ⟨g, rfl, hb, (Array.getElem?_eq_some_iff.1 hg).1, ?_, ?_⟩
    · rw [← ht] at hi
      rw [List.getElem?_take] at hi
      split at hi
      · simp only [World.cell?, hg]
        simpa using hi
      · cases hi
    · simp [World.frozen?, hg]
theorem owns_keep {w w' : World} {base : Nat} {e : TypeId} {size : Nat} {v : Value} {n : Nat} {xs : List Value} (h : w.ownsRow base e size v n xs) (hk : ∀ b, b < w.heap.size → base ≤ b → w'.heap[b]? = w.heap[b]?) : w'.ownsRow base e size v n xs := by
  obtain ⟨hl, h | ⟨g, cap, cur, rfl, hb, hg, hc, hm, hs, ht⟩⟩ := h
  · exact ⟨hl, .inl h⟩
  · exact ⟨hl, .inr ⟨g, cap, cur, rfl, hb, by rw [hk g (Array.getElem?_eq_some_iff.1 hg).1 hb]; exact hg, hc, hm, hs, ht⟩⟩
theorem owns_on {w w' : World} {base : Nat} {e : TypeId} {size : Nat} {v : Value} {n : Nat} {xs : List Value} (h : w.ownsRow base e size v n xs) (hb : Below w.heap.size w w') : w'.ownsRow base e size v n xs := owns_keep h (fun b hb' _ => hb.block b hb')
theorem owns_low {w : World} {base lo : Nat} {e : TypeId} {size : Nat} {v : Value} {n : Nat} {xs : List Value} (h : w.ownsRow base e size v n xs) (hl : lo ≤ base) : w.ownsRow lo e size v n xs := by
  obtain ⟨hl', h | ⟨g, cap, cur, rfl, hb, hg, hc, hm, hs, ht⟩⟩ := h
  · exact ⟨hl', .inl h⟩
  · exact ⟨hl', .inr ⟨g, cap, cur, rfl, Nat.le_trans hl hb, hg, hc, hm, hs, ht⟩⟩
/-- Rows of two types lie in two blocks. -/
theorem owns_ne {w : World} {b1 b2 : Nat} {e1 e2 : TypeId} {s1 s2 : Nat} {v1 v2 : Value} {n1 n2 : Nat} {x1 x2 : List Value} (h : w.ownsRow b1 e1 s1 v1 n1 x1) (h' : w.ownsRow b2 e2 s2 v2 n2 x2) (hne : ¬ e1 = e2) : v1.ownBlock = none ∨ v1.ownBlock ≠ v2.ownBlock := by
  obtain ⟨_, ⟨rfl, _⟩ | ⟨g, cap, cur, rfl, hb, hg, _⟩⟩ := h
  · exact .inl rfl
  · obtain ⟨_, ⟨rfl, _⟩ | ⟨g', cap', cur', rfl, hb', hg', _⟩⟩ := h'
    · exact .inr (by simp [Value.ownBlock])
    · refine .inr (fun e => ?_)
      simp [Value.ownBlock] at e
      subst e
      rw [hg] at hg'
      injection hg' with hg'
      injection hg' with _ h2 _
      exact hne h2
theorem own_slice {w : World} {base : Nat} {e : TypeId} {size : Nat} {v : Value} {n : Nat} {xs : List Value} (h : w.ownsRow base e size v n xs) : ∃ ao cp, v = .slice ao n cp := by
  obtain ⟨hl, ⟨rfl, rfl⟩ | ⟨g, cap, cur, rfl, _⟩⟩ := h
  · exact ⟨_, _, rfl⟩
  · exact ⟨_, _, rfl⟩
theorem below_grown {B : Nat} {w wr w1 : World} {v : Value} {e : TypeId} {size n : Nat} {xs : List Value} (HB : Below B w wr) (HO : wr.ownsRow B e size v n xs) (G : wr.grownBy w1 v.ownBlock) (hB : B ≤ wr.heap.size) : Below B w w1 := by
  refine ⟨G.os.trans HB.os, G.tape.trans HB.tape, G.output.trans HB.output, Nat.le_trans HB.size G.size, fun k hk => ?_⟩
  refine (G.block k (by omega) (fun e => ?_)).trans (HB.block k hk)
  have := (HO.lt k e.symm).1
  omega

theorem infoU : ∃ i, Try.prog.info? 22 = some i ∧ i.zero = some (.int .u64 0) ∧ i.size = 1 ∧ i.bytes = 8 := by
  have h : (Try.prog.info? 22).map (fun i => (i.zero, i.size, i.bytes)) = some (some (.int .u64 0), 1, 8) := by kernel_rfl
  cases hp : Try.prog.info? 22 with
  | none => rw [hp] at h; cases h
  | some i => rw [hp] at h; simp at h; exact ⟨i, rfl, h.1, h.2.1, h.2.2⟩
theorem infoI : ∃ i, Try.prog.info? 3 = some i ∧ i.zero = some (.int .i64 0) ∧ i.size = 1 ∧ i.bytes = 8 := by
  have h : (Try.prog.info? 3).map (fun i => (i.zero, i.size, i.bytes)) = some (some (.int .i64 0), 1, 8) := by kernel_rfl
  cases hp : Try.prog.info? 3 with
  | none => rw [hp] at h; cases h
  | some i => rw [hp] at h; simp at h; exact ⟨i, rfl, h.1, h.2.1, h.2.2⟩
theorem infoS : ∃ i, Try.prog.info? 23 = some i ∧ i.zero = some (.slice none 0 0) ∧ i.size = 1 ∧ i.bytes = 24 := by
  have h : (Try.prog.info? 23).map (fun i => (i.zero, i.size, i.bytes)) = some (some (.slice none 0 0), 1, 24) := by kernel_rfl
  cases hp : Try.prog.info? 23 with
  | none => rw [hp] at h; cases h
  | some i => rw [hp] at h; simp at h; exact ⟨i, rfl, h.1, h.2.1, h.2.2⟩
theorem infoO : ∃ i z, Try.prog.info? 41 = some i ∧ i.zero = some z ∧ i.size = 9 ∧ i.bytes = 64 ∧ z.cells.size = 9 := by
  have h : (Try.prog.info? 41).map (fun i => (i.zero.map (fun z => z.cells.size), i.size, i.bytes)) = some (some 9, 9, 64) := by kernel_rfl
  cases hp : Try.prog.info? 41 with
  | none => rw [hp] at h; cases h
  | some i =>
    rw [hp] at h
    simp at h
    obtain ⟨⟨z, h1, h2⟩, h3, h4⟩ := h
    exact ⟨i, z, rfl, h1, h3, h4, h2⟩
theorem row_on {W W' : World} {g : Nat} {t : TypeId} {n : Nat} {F : Nat → Value} (hr : W.rowIs g t n F) (hb : Below W.heap.size W W') : W'.rowIs g t n F := hr.of_block (hb.block g hr.lt)
theorem cells_new (w : World) (l : List Value) (t : TypeId) : ∀ j u, l[j]? = some u → (w.alloc (.cells l.toArray t)).cell? ((⟨w.heap.size, 0, none⟩ : Addr).add j) = some u := by
  intro j u hj
  have hl := (List.getElem?_eq_some_iff.1 hj).1
  rw [Go.WideShapes.add_plain, Nat.zero_add, (rowL_alloc w l t rfl).cell hl]
  simp [lrow, hj]
theorem obox (w : World) (u l fi ta : Bool) (ag ge lk nx : Int) (ao : Option Addr) (n cap : Nat) : ∃ W0, w.alloc (.cells #[.bool u, .bool l, .bool fi, .bool ta, .int .i64 ag, .int .u64 ge, .int .u64 lk, .int .u64 nx, .slice ao n cap] 41) = W0 ∧ Below w.heap.size w W0 ∧ W0.rowIs w.heap.size 41 9 (lrow [.bool u, .bool l, .bool fi, .bool ta, .int .i64 ag, .int .u64 ge, .int .u64 lk, .int .u64 nx, .slice ao n cap]) := ⟨_, rfl, (Below.refl _ w).alloc (Nat.le_refl _) _, rowL_alloc w [.bool u, .bool l, .bool fi, .bool ta, .int .i64 ag, .int .u64 ge, .int .u64 lk, .int .u64 nx, .slice ao n cap] _ rfl⟩
def Tells (e : Ending) (p : Prop) : Prop := ∃ v, e = .returned (.bool v) ∧ (v = true ↔ p)
theorem Tells.yes {p : Prop} (h : p) : Tells (.returned (.bool true)) p := ⟨true, rfl, by simp [h]⟩
theorem Tells.no {p : Prop} (h : ¬ p) : Tells (.returned (.bool false)) p := ⟨false, rfl, by simp [h]⟩
theorem Tells.get {e : Ending} {p : Prop} (h : Tells e p) : (p ∧ e = .returned (.bool true)) ∨ (¬ p ∧ e = .returned (.bool false)) := by
  obtain ⟨v, rfl, hv⟩ := h
  cases v
  · exact .inr ⟨fun h => (by have := hv.2 h; cases this), rfl⟩
  · exact .inl ⟨hv.1 rfl, rfl⟩
theorem vbox (w : World) (c : Vc) (a : Av) : ∃ W0, w.alloc (.cells #[.int .i64 a.ph, .int .i64 a.co, .int .u64 a.ro, .slice a.aa a.na a.ca, .slice a.ra c.rs.length a.cr, .slice a.wa a.nw a.cw, .slice a.oa c.os.length a.cb, .slice a.fa a.nf a.cf, .slice a.ga a.ng a.cg, .slice a.qa c.qu.length a.cq, .int .u64 a.k0, .int .u64 a.k1, .int .u64 a.k2, .int .u64 a.k3] 29) = W0 ∧ Below w.heap.size w W0 ∧ W0.rowIs w.heap.size 29 14 (lrow (vcl c a)) := ⟨_, rfl, (Below.refl _ w).alloc (Nat.le_refl _) _, rowL_alloc w (vcl c a) _ rfl⟩
theorem infoB : ∃ i, Try.prog.info? 4 = some i ∧ i.zero = some (.bool false) ∧ i.size = 1 ∧ i.bytes = 1 := by
  have h : (Try.prog.info? 4).map (fun i => (i.zero, i.size, i.bytes)) = some (some (.bool false), 1, 1) := by kernel_rfl
  cases hp : Try.prog.info? 4 with
  | none => rw [hp] at h; cases h
  | some i => rw [hp] at h; simp at h; exact ⟨i, rfl, h.1, h.2.1, h.2.2⟩
end Gr
end Go.Proofs.Ytlbcjolbgeficaa
