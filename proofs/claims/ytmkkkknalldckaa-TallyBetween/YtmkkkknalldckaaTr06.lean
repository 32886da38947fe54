/-
  Lemmas: RBegin, LayM, Goods, Steps0, Hands, Made.
-/
import Derived.Test.YtmkkkknalldckaaTr05
import Derived.Deep.MidRow
import Derived.Deep.Cut
import Derived.Deep.RegionLaw
/-
  The reference's run ahead of its first step: middenref03.Begin, for every list of words and of hands: five rows made and one copied, in whatever order.
-/
namespace Go.Proofs.Ytmkkkknalldckaa
open Go.RowKit
set_option linter.unusedVariables false
set_option linter.unusedSimpArgs false
set_option maxRecDepth 20000

structure Shp where
  a : Int
  b : Int
  c : Int
  d : Int
  e : Int
  f : Int
def Shp.val (s : Shp) : Value := .agg #[.int .i64 s.a, .int .i64 s.b, .int .i64 s.c, .int .i64 s.d, .int .i64 s.e, .int .i64 s.f]

/-- The reference's run, by value. -/
def runCells (s : Shp) (vw vh vt vu vb vk vs va : Value) (la : Int) : List Value :=
  [.int .i64 s.a, .int .i64 s.b, .int .i64 s.c, .int .i64 s.d, .int .i64 s.e, .int .i64 s.f, vw, vh, vt, vu, vb, vk, vs, va, .int .i64 la]
def runVal (s : Shp) (vw vh vt vu vb vk vs va : Value) (la : Int) : Value := .agg (runCells s vw vh vt vu vb vk vs va la).toArray

section
variable {P : Program} {o : Oper} {a : Act} {w : World} {K : Act → World → Prop} {Q : Exit → Act → World → Prop}
theorem wp_value {v : Value} {w' : World} (h : (execOp a.eval o).run P w = .ok (.value v) w') (hk : K (a.put o.dst v) w') : o.wp P a w K Q := by
  unfold Oper.wp; rw [h]; exact hk
theorem wp_move (x : Operand) (ho : o.op = .move x) (h : K (a.put o.dst (a.eval x)) w) : o.wp P a w K Q :=
  wp_value (w' := w) (v := a.eval x) (by simp [execOp, ho]) h
theorem wp_make {t e : TypeId} {zc : Array Value} {size bytes n : Nat} (x : Operand) (ho : o.op = .makeSlice t x x) (hx : a.eval x = .int .i64 n) (ht : P.underlying t = some (.slice e)) (hinfo : (P.info? e).map (fun i => (i.zero.map Value.cells, i.size, i.bytes)) = some (some zc, size, bytes))
    (hbytes : bytes * n ≤ 281474976710656) (h63 : n ≤ 9223372036854775807)
    (h : K (a.put o.dst (.slice (some ⟨w.heap.size, 0, none⟩) n n)) (w.alloc (.cells (madeCells zc (n * size)) e))) : o.wp P a w K Q :=
  wp_value (by simp [execOp, ho, hx, run_make_z t e zc size bytes ht hinfo n hbytes h63 w, Result.andThen]) h
theorem wp_lit0 {t e : TypeId} {zc : Array Value} {size bytes : Nat} (ho : o.op = .buildSlice t 0 #[]) (ht : P.underlying t = some (.slice e)) (hinfo : (P.info? e).map (fun i => (i.zero.map Value.cells, i.size, i.bytes)) = some (some zc, size, bytes))
    (h : K (a.put o.dst (.slice (some ⟨w.heap.size, 0, none⟩) 0 0)) (w.alloc (.cells #[] e))) : o.wp P a w K Q := by
  obtain ⟨i, hi, hzz⟩ := Option.map_eq_some_iff.1 hinfo
  refine wp_value (w' := w.alloc (.cells #[] e)) (v := .slice (some ⟨w.heap.size, 0, none⟩) 0 0) ?_ h
  simp only [Prod.mk.injEq] at hzz
  obtain ⟨hz, hs, hb⟩ := hzz
  obtain ⟨z, hz, hzc⟩ := Option.map_eq_some_iff.1 hz
  simp [execOp, ho, go_sem, run_underlying ht w, sizeOf, typeInfo, hi, Result.andThen, newObj]
  rfl
theorem wp_append_lit {t e : TypeId} {i : TypeInfo} {z : Value} {size bytes base n : Nat} (s x : Operand) (ho : o.op = Op.call { callee := Callee.builtin Builtin.append, args := #[s, x], argTypes := #[t, t] })
    (ht : P.underlying t = some (.slice e)) (hi : P.info? e = some i) (hz : i.zero = some z) (hsize : i.size = size) (hby : i.bytes = bytes) (hzs : z.cells.size = size) (hsz : 0 < size)
    (v : Value) (hs : a.eval s = v) (hown : w.ownsRow base e size v 0 []) (ao : Option Addr) (c : Nat) (news : List Value) (hx : a.eval x = .slice ao n c) (hnil : ao = none → n = 0 ∧ c = 0) (hl : news.length = n * size)
    (hnews : ∀ ad, ao = some ad → ∀ j u, news[j]? = some u → w.cell? (ad.add j) = some u) (h1 : ∀ u ∈ news, u.oneCell' = true) (h63 : n ≤ maxLen) (hbytes : n * bytes ≤ 140737488355328) (hbase : base ≤ w.heap.size)
    (h : ∀ v' w', w'.ownsRow base e size v' n news → w.grownBy w' v.ownBlock → (v' = .slice none 0 0 → v = .slice none 0 0) → (v'.ownBlock = v.ownBlock ∨ v'.ownBlock = some w.heap.size) → K (a.put o.dst v') w') : o.wp P a w K Q := by
  cases ao with
  | none =>
    obtain ⟨rfl, rfl⟩ := hnil rfl
    have hn : news = [] := by simpa using hl
    subst hn
    have hrun := run_append_owned_none (P := P) (w := w) base t o.type e i size ht hi v 0 [] hown
    refine wp_value (w' := w) (v := v) ?_ (h v w hown (grown_refl _ _) (fun e => e) (.inl rfl))
    simp [execOp, ho, resolve, invoke, builtin, hs, hx, hrun, Result.andThen]
  | some ad =>
    obtain ⟨v', w', hr, h2, h3, h4, h5⟩ := run_append_own_at (P := P) w base t o.type e i z size bytes ht hi hz hsize hby hzs hsz v 0 [] hown ad n c news hl (hnews ad rfl) h1 (by omega) (by simpa using hbytes) hbase
    refine wp_value (w' := w') (v := v') ?_ (h v' w' (by simpa using h2) h3 (fun e => (h4.1 e).1) h5)
    simp [execOp, ho, resolve, invoke, builtin, hs, hx, hr, Result.andThen]
end

theorem put_eval {a : Act} {d : Nat} {v : Value} (h : d < a.tmps.size) : (a.put (some d) v).eval (.tmp d) = v := by
  simp [Act.put, Act.eval, h]
theorem put_other {a : Act} {d k : Nat} {v : Value} (h : k ≠ d) : (a.put (some d) v).eval (.tmp k) = a.eval (.tmp k) :=
  Act.eval_put (fun d' hd he => by cases hd; cases he; exact h rfl)
theorem put_size {a : Act} {d : Option Nat} {v : Value} : (a.put d v).tmps.size = a.tmps.size := by
  cases d <;> simp [Act.put]
theorem put_defs {a : Act} {d : Option Nat} {v : Value} : (a.put d v).defers = a.defers := by
  cases d <;> rfl

theorem madeCells_get (zc : Array Value) (n i : Nat) (hi : i < n) : (madeCells zc n)[i]? = some (zc[i % zc.size]!) := by
  simp [madeCells, hi]
theorem World.rowIs_alloc' (w : World) (vs : Array Value) (t : TypeId) (n : Nat) (hn : vs.size = n) {f : Nat → Value} (hc : ∀ i, i < n → vs[i]? = some (f i)) : (w.alloc (.cells vs t)).rowIs w.heap.size t n f := by
  subst hn
  exact World.rowIs_alloc w vs t f hc
theorem rowIs_madeN (w : World) (zc : Array Value) (n : Nat) (t : TypeId) : (w.alloc (.cells (madeCells zc n) t)).rowIs w.heap.size t n (fun i => zc[i % zc.size]!) :=
  World.rowIs_alloc' w (madeCells zc n) t n (size_madeCells _ _) (fun i hi => madeCells_get zc n i hi)

theorem touch_setCells (b : Nat) : ∀ (vs : List Value) (o : Nat) (w : World), Touch w (w.setCells b o vs) (fun k => k = b)
  | [], _, w => Touch.refl w _
  | v :: r, o, w => by
    rw [World.setCells]
    exact (Touch.setCell (S := fun k => k = b) (Touch.refl w _) ⟨b, o, none⟩ (.inl rfl) v).trans (touch_setCells b r (o + 1) _)

/-! Begin's region. -/
namespace Beg
/-- Which operation moves what into which slot. -/
def mv (vw vh vn vs : Value) : Nat → Option (Nat × Value)
  | 0 => some (10, vs)
  | 2 => some (12, vw)
  | 4 => some (14, vh)
  | 5 => some (15, vn)
  | 7 => some (17, vn)
  | 9 => some (19, vn)
  | 11 => some (21, vn)
  | 13 => some (23, vn)
  | _ => none
def zTask : Array Value := #[.int .i64 0, .int .i64 0, .int .i64 0, .int .i64 0, .int .i64 0, .int .i64 0, .int .i64 0, .int .i64 0, .int .i64 0, .int .i64 0, .int .i64 0, .int .u64 0, .int .i64 0, .int .u64 0, .int .u64 0, .int .u64 0, .int .u64 0, .int .u64 0, .int .u64 0, .int .u64 0, .int .u64 0, .slice none 0 0, .bool false, .int .u64 0, .int .u64 0, .int .u64 0, .int .u64 0, .int .u64 0]
def zKept : Array Value := #[.int .u64 0, .int .u64 0, .int .u64 0, .int .u64 0]
/-- Which operation makes which row, into which slot. -/
def mkr (n : Nat) : Rl → Option (Nat × Nat × Row)
  | .tasks => some (6, 16, ⟨77, n * 28, fun i => zTask[i % zTask.size]!⟩)
  | .going => some (8, 18, ⟨4, n * 1, fun i => #[Value.bool false][i % #[Value.bool false].size]!⟩)
  | .run => some (10, 20, ⟨3, n * 1, fun i => #[Value.int .i64 0][i % #[Value.int .i64 0].size]!⟩)
  | .mem => some (12, 22, ⟨75, n * 4, fun i => zKept[i % zKept.size]!⟩)
  | .answers => some (14, 24, ⟨44, n * 1, fun i => #[Value.slice none 0 0][i % #[Value.slice none 0 0].size]!⟩)
  | _ => none
theorem mk_inj {n : Nat} {r r' : Rl} {k d k' d' : Nat} {x x' : Row} (h : mkr n r = some (k, d, x)) (h' : mkr n r' = some (k', d', x')) (hne : r' ≠ r) : k' ≠ k ∧ d' ≠ d := by
  cases r <;> cases r' <;> simp [mkr] at h h' hne <;> omega
theorem mk_words {n : Nat} {r : Rl} {y : Nat × Nat × Row} (h : mkr n r = some y) : r ≠ .words := by rintro rfl; cases h
theorem mk_steps {n : Nat} {r : Rl} {y : Nat × Nat × Row} (h : mkr n r = some y) : r ≠ .steps := by rintro rfl; cases h
theorem mk_arow {n h' : Nat} {r : Rl} {y : Nat × Nat × Row} (h : mkr n r = some y) : r ≠ .arow h' := by rintro rfl; cases h
theorem mk_key {n : Nat} {r : Rl} {k d : Nat} {x : Row} (h : mkr n r = some (k, d, x)) : (k = 6 ∧ d = 16) ∨ (k = 8 ∧ d = 18) ∨ (k = 10 ∧ d = 20) ∨ (k = 12 ∧ d = 22) ∨ (k = 14 ∧ d = 24) := by
  cases r <;> simp [mkr] at h <;> omega
theorem mv_key {vw vh vn vs v : Value} {k d : Nat} (h : mv vw vh vn vs k = some (d, v)) : (k = 0 ∧ d = 10) ∨ (k = 2 ∧ d = 12) ∨ (k = 4 ∧ d = 14) ∨ (k = 5 ∧ d = 15) ∨ (k = 7 ∧ d = 17) ∨ (k = 9 ∧ d = 19) ∨ (k = 11 ∧ d = 21) ∨ (k = 13 ∧ d = 23) := by
  unfold mv at h
  split at h <;> simp at h <;> omega
theorem mv_one {vw vh vn vs v v' : Value} {k k' d d' : Nat} (h : mv vw vh vn vs k = some (d, v)) (h' : mv vw vh vn vs k' = some (d', v')) (hne : k' ≠ k) : d' ≠ d := by
  have := mv_key h
  have := mv_key h'
  omega

def sl (b n : Nat) : Value := .slice (some ⟨b, 0, none⟩) n n
def cellsAt (sh : Shp) (vw vh : Value) (blk : Rl → Nat) (nh : Nat) : List Value := runCells sh vw vh (sl (blk .tasks) nh) (sl (blk .going) nh) (sl (blk .run) nh) (sl (blk .mem) nh) (.slice none 0 0) (sl (blk .answers) nh) (-1)

/-- What is known of the words' row. -/
structure Wd (N : Nat) (L : Nat → Bool) (a : Act) (blk : Rl → Nat) (c : Rl → Option Row) (n : Nat) (f : Nat → Int) : Prop where
  none : L 1 = false → c .words = .none ∧ L 3 = false
  lit : L 1 = true → L 3 = false → a.eval (.tmp 11) = .slice (some ⟨blk .words, 0, .none⟩) 0 0 ∧ N ≤ blk .words ∧ ∃ F, c .words = some ⟨36, 0, F⟩
  row : L 3 = true → ∃ cap F, a.eval (.tmp 13) = .slice (some ⟨blk .words, 0, .none⟩) n cap ∧ c .words = some ⟨36, cap, F⟩ ∧ n ≤ cap ∧ cap ≤ maxLen ∧ ∀ i, i < n → F i = .int .u64 (f i)

structure In (w0 : World) (B : Nat) (sh : Shp) (vw vh : Value) (n nh : Nat) (f : Nat → Int) (L : Nat → Bool) (a : Act) (w : World) (blk : Rl → Nat) (c : Rl → Option Row) : Prop where
  sz : a.tmps.size = 26
  df : a.defers = []
  s1 : a.eval (.tmp 1) = vw
  s2 : a.eval (.tmp 2) = vh
  s3 : a.eval (.tmp 3) = .pointer (some ⟨B, 0, none⟩)
  s6 : a.eval (.tmp 6) = .pointer (some ⟨B + 1, 0, none⟩)
  s7 : a.eval (.tmp 7) = .int .i64 nh
  tch : Touch w0 w (fun k => k = B + 1)
  th : w.there (B + 1) 0 15
  mvs : ∀ k d v, mv vw vh (.int .i64 nh) sh.val k = some (d, v) → L k = true → a.eval (.tmp d) = v
  has : Has w (B + 2) blk c
  mks : ∀ r k d x, mkr nh r = some (k, d, x) → (L k = true → a.eval (.tmp d) = sl (blk r) nh ∧ c r = some x) ∧ (L k = false → c r = none)
  rest : c .steps = none ∧ ∀ h, c (.arow h) = none
  wd : Wd w0.heap.size L a blk c n f
  bld : L 15 = true → (L 3 = true ∧ ∀ r k d x, mkr nh r = some (k, d, x) → L k = true) ∧ a.eval (.tmp 25) = .agg (cellsAt sh (a.eval (.tmp 13)) vh blk nh).toArray
  fin : L 16 = true → L 15 = true ∧ w.rangeAt (B + 1) 0 (cellsAt sh (a.eval (.tmp 13)) vh blk nh)

variable {w0 w : World} {B : Nat} {sh : Shp} {vw vh : Value} {n nh : Nat} {f : Nat → Int} {L : Nat → Bool} {a : Act} {blk : Rl → Nat} {c : Rl → Option Row}

theorem In.mvStep (h : In w0 B sh vw vh n nh f L a w blk c) {k d : Nat} {v : Value} (hk : mv vw vh (.int .i64 nh) sh.val k = some (d, v)) : In w0 B sh vw vh n nh f (upd L k true) (a.put (some d) v) w blk c := by
  have hkk := mv_key hk
  have e : ∀ j, j ≠ d → (a.put (some d) v).eval (.tmp j) = a.eval (.tmp j) := fun j hj => put_other hj
  have u : ∀ j, j ≠ k → upd L k true j = L j := fun j hj => upd_other _ _ hj
  have u1 := u 1 (by omega)
  have u3 := u 3 (by omega)
  have u15 := u 15 (by omega)
  have u16 := u 16 (by omega)
  refine ⟨by rw [put_size]; exact h.sz, by rw [put_defs]; exact h.df, by rw [e _ (by omega)]; exact h.s1, by rw [e _ (by omega)]; exact h.s2, by rw [e _ (by omega)]; exact h.s3, by rw [e _ (by omega)]; exact h.s6, by rw [e _ (by omega)]; exact h.s7,
    h.tch, h.th, fun k' d' v' hk' hL => ?_, h.has, fun r k' d' x hr => ?_, h.rest, ⟨?_, ?_, ?_⟩, ?_, ?_⟩
  · by_cases hkk' : k' = k
    · subst hkk'
      rw [hk] at hk'
      cases hk'
      exact put_eval (by have := h.sz; omega)
    · rw [u k' hkk'] at hL
      rw [e _ (mv_one hk hk' hkk')]
      exact h.mvs k' d' v' hk' hL
  · have hrk := mk_key hr
    rw [u k' (by omega), e d' (by omega)]
    exact h.mks r k' d' x hr
  · rw [u1, u3]; exact h.wd.none
  · rw [u1, u3, e _ (by omega)]; exact h.wd.lit
  · rw [u3, e _ (by omega)]; exact h.wd.row
  · rw [u15, u3, e _ (by omega), e _ (by omega)]
    intro hL
    obtain ⟨⟨h1, h2⟩, h3⟩ := h.bld hL
    exact ⟨⟨h1, fun r k' d' x hr => by rw [u k' (by have := mk_key hr; omega)]; exact h2 r k' d' x hr⟩, h3⟩
  · rw [u15, u16, e _ (by omega)]; exact h.fin

theorem In.mkStep (h : In w0 B sh vw vh n nh f L a w blk c) (hB : B + 2 ≤ w0.heap.size) {r : Rl} {k d : Nat} {x : Row} (hk : mkr nh r = some (k, d, x)) (hL : L k = false) {w' : World} (hw : w'.rowIs w.heap.size x.t x.n x.f) (ht : Touch w w' (fun _ => False)) :
    In w0 B sh vw vh n nh f (upd L k true) (a.put (some d) (sl w.heap.size nh)) w' (upd blk r w.heap.size) (upd c r (some x)) := by
  have hkk := mk_key hk
  have e : ∀ j, j ≠ d → (a.put (some d) (sl w.heap.size nh)).eval (.tmp j) = a.eval (.tmp j) := fun j hj => put_other hj
  have u : ∀ j, j ≠ k → upd L k true j = L j := fun j hj => upd_other _ _ hj
  have u1 := u 1 (by omega)
  have u3 := u 3 (by omega)
  have u15 := u 15 (by omega)
  have u16 := u 16 (by omega)
  have hsz := h.tch.size
  have n15 : ¬ L 15 = true := fun h15 => by rw [((h.bld h15).1.2 r k d x hk)] at hL; cases hL
  have hrw := mk_words hk
  refine ⟨by rw [put_size]; exact h.sz, by rw [put_defs]; exact h.df, by rw [e _ (by omega)]; exact h.s1, by rw [e _ (by omega)]; exact h.s2, by rw [e _ (by omega)]; exact h.s3, by rw [e _ (by omega)]; exact h.s6, by rw [e _ (by omega)]; exact h.s7,
    h.tch.trans' ht (fun _ _ h => h.elim), ?_, fun k' d' v' hk' hL' => ?_, h.has.add r w.heap.size x (by omega) (Nat.le_refl _) ht (fun _ _ _ _ => id) hw, fun r' k' d' x' hr' => ?_, ⟨by rw [upd_other _ _ (mk_steps hk).symm]; exact h.rest.1, fun hh => by rw [upd_other _ _ (mk_arow hk).symm]; exact h.rest.2 hh⟩, ⟨?_, ?_, ?_⟩, ?_, ?_⟩
  · intro j hj
    obtain ⟨h1, h2⟩ := h.th j hj
    obtain ⟨y, hy⟩ := Option.isSome_iff_exists.1 h1
    have hlt := World.block_lt_of_cell? w _ hy
    have hbk := ht.block (B + 1) hlt id
    exact ⟨by rw [World.cell?_of_block (a := ⟨B + 1, 0 + j, none⟩) hbk]; exact h1, by rw [World.frozen?_of_block (a := ⟨B + 1, 0 + j, none⟩) hbk]; exact h2⟩
  · have hmk := mv_key hk'
    rw [u k' (by omega)] at hL'
    rw [e d' (by omega)]
    exact h.mvs k' d' v' hk' hL'
  · by_cases hrr : r' = r
    · subst hrr
      rw [hk] at hr'
      cases hr'
      exact ⟨fun _ => ⟨by rw [put_eval (by have := h.sz; omega), upd_same], by rw [upd_same]⟩, fun hf => by rw [upd_same] at hf; cases hf⟩
    · obtain ⟨hk2, hd2⟩ := mk_inj hk hr' hrr
      rw [u k' hk2, e d' hd2, upd_other _ _ hrr, upd_other _ _ hrr]
      exact h.mks r' k' d' x' hr'
  · rw [u1, u3, upd_other _ _ hrw.symm]; exact h.wd.none
  · rw [u1, u3, e _ (by omega), upd_other _ _ hrw.symm, upd_other _ _ hrw.symm]; exact h.wd.lit
  · rw [u3, e _ (by omega), upd_other _ _ hrw.symm, upd_other _ _ hrw.symm]; exact h.wd.row
  · rw [u15]; intro hc; exact absurd hc n15
  · rw [u16]; intro hc; exact absurd (h.fin hc).1 n15
theorem In.litStep (h : In w0 B sh vw vh n nh f L a w blk c) (hB : B + 2 ≤ w0.heap.size) (hL : L 1 = false) :
    In w0 B sh vw vh n nh f (upd L 1 true) (a.put (some 11) (.slice (some ⟨w.heap.size, 0, none⟩) 0 0)) (w.alloc (.cells #[] 36)) (upd blk .words w.heap.size) (upd c .words (some ⟨36, 0, fun _ => default⟩)) := by
  have e : ∀ j : Nat, j ≠ 11 → (a.put (some 11) (.slice (some ⟨w.heap.size, 0, none⟩) 0 0)).eval (.tmp j) = a.eval (.tmp j) := fun j hj => put_other hj
  have u : ∀ j, j ≠ 1 → upd L 1 true j = L j := fun j hj => upd_other _ _ hj
  have hsz := h.tch.size
  obtain ⟨hcw, h3⟩ := h.wd.none hL
  have n15 : ¬ L 15 = true := fun h15 => by rw [(h.bld h15).1.1] at h3; cases h3
  have ht : Touch w (w.alloc (.cells #[] 36)) (fun _ => False) := (Touch.refl w _).alloc _
  refine ⟨by rw [put_size]; exact h.sz, by rw [put_defs]; exact h.df, by rw [e _ (by omega)]; exact h.s1, by rw [e _ (by omega)]; exact h.s2, by rw [e _ (by omega)]; exact h.s3, by rw [e _ (by omega)]; exact h.s6, by rw [e _ (by omega)]; exact h.s7,
    h.tch.alloc _, World.there_alloc h.th _, fun k' d' v' hk' hL' => ?_, h.has.add .words w.heap.size ⟨36, 0, fun _ => default⟩ (by omega) (Nat.le_refl _) ht (fun _ _ _ _ => id) (World.rowIs_alloc' w #[] _ 0 rfl (fun i hi => by omega)), fun r' k' d' x' hr' => ?_, ⟨by rw [upd_other _ _ (by simp)]; exact h.rest.1, fun hh => by rw [upd_other _ _ (by simp)]; exact h.rest.2 hh⟩, ⟨?_, ?_, ?_⟩, ?_, ?_⟩
  · have hmk := mv_key hk'
    rw [u k' (by omega)] at hL'
    rw [e d' (by omega)]
    exact h.mvs k' d' v' hk' hL'
  · have hmk := mk_key hr'
    rw [u k' (by omega), e d' (by omega), upd_other _ _ (mk_words hr'), upd_other _ _ (mk_words hr')]
    exact h.mks r' k' d' x' hr'
  · intro hc; rw [upd_same] at hc; cases hc
  · intro _ _
    exact ⟨by rw [put_eval (by have := h.sz; omega), upd_same], by rw [upd_same]; exact hsz, _, upd_same _ _ _⟩
  · rw [u 3 (by omega)]; intro hc; rw [h3] at hc; cases hc
  · rw [u 15 (by omega)]; intro hc; exact absurd hc n15
  · rw [u 16 (by omega)]; intro hc; exact absurd (h.fin hc).1 n15

theorem In.appStep (h : In w0 B sh vw vh n nh f L a w blk c) (hB : B + 2 ≤ w0.heap.size) (hL1 : L 1 = true) (hL : L 3 = false) (hf : ∀ i, i < n → 0 ≤ f i ∧ f i ≤ 18446744073709551615) {v' : Value} {w' : World}
    (hown : w'.ownsRow (B + 2) 36 1 v' n (wordCells n f)) (hg : w.grownBy w' (some (blk .words))) (hnn : ¬ v' = .slice none 0 0) (hat : v'.ownBlock = some (blk .words) ∨ v'.ownBlock = some w.heap.size) :
    ∃ g cap F, In w0 B sh vw vh n nh f (upd L 3 true) (a.put (some 13) v') w' (upd blk .words g) (upd c .words (some ⟨36, cap, F⟩)) := by
  obtain ⟨g, cap, rfl, ⟨hnc, hcm, ⟨F, hrow, hF⟩, _⟩, hbg⟩ := owned_row hown hnn hf
  obtain ⟨e11, hnw, F0, ec⟩ := h.wd.lit hL1 hL
  refine ⟨g, cap, F, ?_⟩
  have e : ∀ j : Nat, j ≠ 13 → (a.put (some 13) (.slice (some ⟨g, 0, none⟩) n cap)).eval (.tmp j) = a.eval (.tmp j) := fun j hj => put_other hj
  have u : ∀ j, j ≠ 3 → upd L 3 true j = L j := fun j hj => upd_other _ _ hj
  have hsz := h.tch.size
  have n15 : ¬ L 15 = true := fun h15 => by rw [(h.bld h15).1.1] at hL; cases hL
  have hbw := h.has.new _ _ ec
  have hlw := h.has.lt ec
  simp only [Value.ownBlock, Option.some.injEq] at hat
  refine ⟨by rw [put_size]; exact h.sz, by rw [put_defs]; exact h.df, by rw [e _ (by omega)]; exact h.s1, by rw [e _ (by omega)]; exact h.s2, by rw [e _ (by omega)]; exact h.s3, by rw [e _ (by omega)]; exact h.s6, by rw [e _ (by omega)]; exact h.s7,
    ?_, ?_, fun k' d' v' hk' hL' => ?_, h.has.move .words g ⟨36, cap, F⟩ (Touch.of_grown hg) (fun r' x' hne e' he => h.has.ne e' ec hne (by simpa using he)) (fun r' x' hne e' he => ?_) hrow hbg, fun r' k' d' x' hr' => ?_, ⟨by rw [upd_other _ _ (by simp)]; exact h.rest.1, fun hh => by rw [upd_other _ _ (by simp)]; exact h.rest.2 hh⟩, ⟨?_, ?_, ?_⟩, ?_, ?_⟩
  · refine ⟨hg.os.trans h.tch.os, hg.tape.trans h.tch.tape, hg.output.trans h.tch.output, Nat.le_trans h.tch.size hg.size, fun k hk hn => ?_⟩
    by_cases hkw : k = blk .words
    · -- the words' block is not one of w0's that may be named: it was made since, or is the row itself
      subst hkw
      exact absurd hk (by omega)
    · exact (hg.block k (by omega) (by simpa using hkw)).trans (h.tch.block k hk hn)
  · intro j hj
    obtain ⟨h1, h2⟩ := h.th j hj
    obtain ⟨y, hy⟩ := Option.isSome_iff_exists.1 h1
    have hlt := World.block_lt_of_cell? w _ hy
    have hbk := hg.block (B + 1) hlt (by simp; omega)
    exact ⟨by rw [World.cell?_of_block (a := ⟨B + 1, 0 + j, none⟩) hbk]; exact h1, by rw [World.frozen?_of_block (a := ⟨B + 1, 0 + j, none⟩) hbk]; exact h2⟩
  · have hmk := mv_key hk'
    rw [u k' (by omega)] at hL'
    rw [e d' (by omega)]
    exact h.mvs k' d' v' hk' hL'
  · rcases hat with hat | hat
    · exact h.has.ne e' ec hne (by omega)
    · have := h.has.lt e'; omega
  · have hmk := mk_key hr'
    rw [u k' (by omega), e d' (by omega), upd_other _ _ (mk_words hr'), upd_other _ _ (mk_words hr')]
    exact h.mks r' k' d' x' hr'
  · rw [u 1 (by omega), hL1]; intro hc; cases hc
  · intro _ hc; rw [upd_same] at hc; cases hc
  · intro _
    exact ⟨cap, F, by rw [put_eval (by have := h.sz; omega), upd_same], upd_same _ _ _, hnc, hcm, hF⟩
  · rw [u 15 (by omega)]; intro hc; exact absurd hc n15
  · rw [u 16 (by omega)]; intro hc; exact absurd (h.fin hc).1 n15

theorem In.bldStep (h : In w0 B sh vw vh n nh f L a w blk c) (hL3 : L 3 = true) (hm : ∀ r k d x, mkr nh r = some (k, d, x) → L k = true) (h16 : L 15 = false) :
    In w0 B sh vw vh n nh f (upd L 15 true) (a.put (some 25) (.agg (cellsAt sh (a.eval (.tmp 13)) vh blk nh).toArray)) w blk c := by
  have e : ∀ j : Nat, j ≠ 25 → (a.put (some 25) (.agg (cellsAt sh (a.eval (.tmp 13)) vh blk nh).toArray)).eval (.tmp j) = a.eval (.tmp j) := fun j hj => put_other hj
  have u : ∀ j, j ≠ 15 → upd L 15 true j = L j := fun j hj => upd_other _ _ hj
  refine ⟨by rw [put_size]; exact h.sz, by rw [put_defs]; exact h.df, by rw [e _ (by omega)]; exact h.s1, by rw [e _ (by omega)]; exact h.s2, by rw [e _ (by omega)]; exact h.s3, by rw [e _ (by omega)]; exact h.s6, by rw [e _ (by omega)]; exact h.s7,
    h.tch, h.th, fun k' d' v' hk' hL' => ?_, h.has, fun r' k' d' x' hr' => ?_, h.rest, ⟨?_, ?_, ?_⟩, ?_, ?_⟩
  · have hmk := mv_key hk'
    rw [u k' (by omega)] at hL'
    rw [e d' (by omega)]
    exact h.mvs k' d' v' hk' hL'
  · have hmk := mk_key hr'
    rw [u k' (by omega), e d' (by omega)]
    exact h.mks r' k' d' x' hr'
  · rw [u 1 (by omega), u 3 (by omega)]; exact h.wd.none
  · rw [u 1 (by omega), u 3 (by omega), e _ (by omega)]; exact h.wd.lit
  · rw [u 3 (by omega), e _ (by omega)]; exact h.wd.row
  · intro _
    rw [u 3 (by omega), e 13 (by omega)]
    exact ⟨⟨hL3, fun r k d x hr => by rw [u k (by have := mk_key hr; omega)]; exact hm r k d x hr⟩, put_eval (by have := h.sz; omega)⟩
  · rw [u 16 (by omega)]; intro hc; rw [(h.fin hc).1] at h16; cases h16

theorem In.stoStep (h : In w0 B sh vw vh n nh f L a w blk c) (h15 : L 15 = true) :
    In w0 B sh vw vh n nh f (upd L 16 true) (a.put none undef) (w.setCells (B + 1) 0 (cellsAt sh (a.eval (.tmp 13)) vh blk nh)) blk c := by
  have u : ∀ j, j ≠ 16 → upd L 16 true j = L j := fun j hj => upd_other _ _ hj
  have hp : a.put none undef = a := rfl
  rw [hp]
  have hlen : (cellsAt sh (a.eval (.tmp 13)) vh blk nh).length = 15 := rfl
  have ht : Touch w (w.setCells (B + 1) 0 (cellsAt sh (a.eval (.tmp 13)) vh blk nh)) (fun k => k = B + 1) := touch_setCells _ _ _ _
  refine ⟨h.sz, h.df, h.s1, h.s2, h.s3, h.s6, h.s7, h.tch.trans' ht (fun _ _ h => h), World.there_setCells h.th _ _ _, fun k' d' v' hk' hL' => ?_, h.has.touch ht (fun r x e he => by have := h.has.new r x e; omega), fun r' k' d' x' hr' => ?_, h.rest, ⟨?_, ?_, ?_⟩, ?_, ?_⟩
  · rw [u k' (by have := mv_key hk'; omega)] at hL'
    exact h.mvs k' d' v' hk' hL'
  · rw [u k' (by have := mk_key hr'; omega)]
    exact h.mks r' k' d' x' hr'
  · rw [u 1 (by omega), u 3 (by omega)]; exact h.wd.none
  · rw [u 1 (by omega), u 3 (by omega)]; exact h.wd.lit
  · rw [u 3 (by omega)]; exact h.wd.row
  · rw [u 15 (by omega), u 3 (by omega)]
    intro hc
    obtain ⟨⟨h1, h2⟩, h3⟩ := h.bld hc
    exact ⟨⟨h1, fun r k d x hr => by rw [u k (by have := mk_key hr; omega)]; exact h2 r k d x hr⟩, h3⟩
  · intro _
    exact ⟨by rw [u 15 (by omega)]; exact h15, World.rangeAt_setCells_same _ _ _ _ (by rw [hlen]; exact h.th)⟩
end Beg
end Go.Proofs.Ytmkkkknalldckaa

/-
  A layer's maker: the closure over its Task and a shape; what makeTask does with it.
-/
namespace Go.Proofs.Ytmkkkknalldckaa
open Go.RowKit
set_option linter.unusedVariables false
set_option linter.unusedSimpArgs false
set_option maxRecDepth 20000

/-- A layer's maker: the closure over its Task and a shape in boxes of their own. -/
def mkOf (tb sb : Nat) : Value := .func (.func 44) #[] #[.pointer (some ⟨tb, 0, none⟩), .pointer (some ⟨sb, 0, none⟩)]
theorem mkOf_nil (tb sb : Nat) (w : World) : (binOp .eql 90 (.func (.func 44) #[] #[.pointer (some ⟨tb, 0, none⟩), .pointer (some ⟨sb, 0, none⟩)]) .nilFunc).run Try.prog w = .ok (.bool false) w := by kernel_rfl

/-- The boxes of a maker. -/
structure Boxes (w : World) (tb sb : Nat) (fid : FuncId) (sh : Shp) : Prop where
  t : w.cell? ⟨tb, 0, none⟩ = some (.func (.func fid) #[] #[])
  a : w.cell? ⟨sb, 0, none⟩ = some (.int .i64 sh.a)
  b : w.cell? ⟨sb, 1, none⟩ = some (.int .i64 sh.b)
  c : w.cell? ⟨sb, 2, none⟩ = some (.int .i64 sh.c)
  d : w.cell? ⟨sb, 3, none⟩ = some (.int .i64 sh.d)
  e : w.cell? ⟨sb, 4, none⟩ = some (.int .i64 sh.e)
  f : w.cell? ⟨sb, 5, none⟩ = some (.int .i64 sh.f)
theorem Boxes.below {w w' : World} {tb sb : Nat} {fid : FuncId} {sh : Shp} {B : Nat} (h : Boxes w tb sb fid sh) (hb : Below B w w') (h1 : tb < B) (h2 : sb < B) : Boxes w' tb sb fid sh :=
  ⟨(hb.cell (p := ⟨tb, 0, none⟩) h1).trans h.t, (hb.cell (p := ⟨sb, 0, none⟩) h2).trans h.a, (hb.cell (p := ⟨sb, 1, none⟩) h2).trans h.b, (hb.cell (p := ⟨sb, 2, none⟩) h2).trans h.c, (hb.cell (p := ⟨sb, 3, none⟩) h2).trans h.d, (hb.cell (p := ⟨sb, 4, none⟩) h2).trans h.e, (hb.cell (p := ⟨sb, 5, none⟩) h2).trans h.f⟩

variable {w : World} {tb sb : Nat} {fid : FuncId} {sh : Shp} {hand : Int} {j : Jb} {vt : Value} {er : Int} {Q : World → World → Value → Prop}

set_option maxHeartbeats 4000000 in
theorem closure_any (hcf : ∀ (args : Array Value) (w : World), (callFunc fid args).run Try.prog w = .ok (.enter fid args) w) (H : Boxes w tb sb fid sh) {R : Value → World → Prop}
    (hT : Calls Try.prog fid #[sh.val, .int .i64 hand, j.val] (w.alloc (.cells #[.int .i64 j.kind, .int .i64 j.a, .int .i64 j.b, .int .i64 j.c, .int .u64 j.h] 41)) fun e w' => ∃ v er, e = .returned (.tuple #[v, .int .i64 er]) ∧ R (.tuple #[v, .int .i64 er]) w') :
    Calls Try.prog 44 #[.int .i64 hand, j.val, .pointer (some ⟨tb, 0, none⟩), .pointer (some ⟨sb, 0, none⟩)] w fun e w' => ∃ v er, e = .returned (.tuple #[v, .int .i64 er]) ∧ R (.tuple #[v, .int .i64 er]) w' := by
  obtain ⟨kind, a, b, c, hh⟩ := j
  obtain ⟨s0, s1, s2, s3, s4, s5⟩ := sh
  obtain ⟨ht, r0, r1, r2, r3, r4, r5⟩ := H
  simp only at r0 r1 r2 r3 r4 r5
  have lt := World.block_lt_of_cell? _ _ ht
  have ls := World.block_lt_of_cell? _ _ r0
  simp only at lt ls
  simp only [Shp.val, Jb.val] at hT ⊢
  have HT := hide hT
  clear hT
  go_enter Try.func44, Try.ntmps44
  go_wp2_with fail
  refine HT.out.mono ?_
  rintro e w1 ⟨v, er, rfl, hR⟩
  have HR := hide hR
  clear hR
  go_wp2_with fail
  go_ret2
  exact ⟨v, er, rfl, HR.out⟩

set_option maxHeartbeats 4000000 in
theorem maker_okB (hcf : ∀ (args : Array Value) (w : World), (callFunc fid args).run Try.prog w = .ok (.enter fid args) w) (H : Boxes w tb sb fid sh) {tid : TypeId} {t : TypeId} {n : Nat} {C : Nat → Nat → Value}
    (hT : ∀ w1 : World, Calls Try.prog fid #[sh.val, .int .i64 hand, j.val] w1 fun e w' => ∃ b, e = .returned (.tuple #[.iface tid (.pointer (some ⟨b, 0, none⟩)), .int .i64 0]) ∧ w'.rowIs b t n (C b) ∧ w1.heap.size ≤ b ∧ w1.grownBy w' none) :
    Calls Try.prog 47 #[mkOf tb sb, .int .i64 hand, j.val] w fun e w' => ∃ b, e = .returned (.tuple #[.iface tid (.pointer (some ⟨b, 0, none⟩)), .int .i64 0]) ∧ w'.rowIs b t n (C b) ∧ w.heap.size ≤ b ∧ w.grownBy w' none := by
  obtain ⟨kind, a, b, c, hh⟩ := j
  have lt := World.block_lt_of_cell? _ _ H.t
  have ls := World.block_lt_of_cell? _ _ H.a
  have hn := mkOf_nil tb sb
  have hi := iface_nil tid
  have H1 : Boxes (w.alloc (.cells #[.int .i64 kind, .int .i64 a, .int .i64 b, .int .i64 c, .int .u64 hh] 41)) tb sb fid sh := H.below ((Below.refl w.heap.size w).alloc (Nat.le_refl _) _) lt ls
  have CL := hide (closure_any (R := fun v w' => ∃ b, v = .tuple #[.iface tid (.pointer (some ⟨b, 0, none⟩)), .int .i64 0] ∧ w'.rowIs b t n (C b) ∧ w.heap.size ≤ b ∧ w.grownBy w' none) hcf H1 ((hT _).mono (by
    rintro e w' ⟨b, rfl, h1, h2, h3⟩
    simp only [World.size_alloc] at h2
    exact ⟨_, _, rfl, b, rfl, h1, by omega, grown_trans (grown_alloc (grown_alloc (grown_refl _ _) _) _) h3⟩)))
  unfold mkOf
  simp only [Jb.val] at CL ⊢
  clear H H1 hT
  go_enter Try.func47, Try.ntmps47
  go_wp2_with fail
  refine CL.out.mono ?_
  rintro e w1 ⟨v, er, rfl, bb, he, hr, hb, hg⟩
  obtain ⟨rfl, rfl⟩ : v = .iface tid (.pointer (some ⟨bb, 0, none⟩)) ∧ er = 0 := by simpa using he
  have HR := hide (And.intro hr (And.intro hb hg))
  clear he hr hb hg
  go_wp2_with fail
  go_ret2
  exact ⟨bb, rfl, HR.out.1, HR.out.2.1, HR.out.2.2⟩

theorem maker_ok (hcf : ∀ (args : Array Value) (w : World), (callFunc fid args).run Try.prog w = .ok (.enter fid args) w) (H : Boxes w tb sb fid sh) {tid : TypeId} {t : TypeId} {n : Nat} {C : Nat → Value}
    (hT : ∀ w1 : World, Calls Try.prog fid #[sh.val, .int .i64 hand, j.val] w1 fun e w' => ∃ b, e = .returned (.tuple #[.iface tid (.pointer (some ⟨b, 0, none⟩)), .int .i64 0]) ∧ w'.rowIs b t n C ∧ w1.heap.size ≤ b ∧ w1.grownBy w' none) :
    Calls Try.prog 47 #[mkOf tb sb, .int .i64 hand, j.val] w fun e w' => ∃ b, e = .returned (.tuple #[.iface tid (.pointer (some ⟨b, 0, none⟩)), .int .i64 0]) ∧ w'.rowIs b t n C ∧ w.heap.size ≤ b ∧ w.grownBy w' none :=
  maker_okB (C := fun _ => C) hcf H hT

set_option maxHeartbeats 4000000 in
theorem maker_err (hcf : ∀ (args : Array Value) (w : World), (callFunc fid args).run Try.prog w = .ok (.enter fid args) w) (H : Boxes w tb sb fid sh) (he : ¬ er = 0)
    (hT : ∀ w1 : World, Calls Try.prog fid #[sh.val, .int .i64 hand, j.val] w1 fun e w' => e = .returned (.tuple #[.nilIface, .int .i64 er]) ∧ w1.grownBy w' none) :
    Calls Try.prog 47 #[mkOf tb sb, .int .i64 hand, j.val] w fun e w' => e = .returned (.tuple #[.nilIface, .int .i64 er]) ∧ w.grownBy w' none := by
  obtain ⟨kind, a, b, c, hh⟩ := j
  have lt := World.block_lt_of_cell? _ _ H.t
  have ls := World.block_lt_of_cell? _ _ H.a
  have hn := mkOf_nil tb sb
  have H1 : Boxes (w.alloc (.cells #[.int .i64 kind, .int .i64 a, .int .i64 b, .int .i64 c, .int .u64 hh] 41)) tb sb fid sh := H.below ((Below.refl w.heap.size w).alloc (Nat.le_refl _) _) lt ls
  have CL := hide (closure_any (R := fun v w' => v = .tuple #[.nilIface, .int .i64 er] ∧ w.grownBy w' none) hcf H1 ((hT _).mono (by
    rintro e w' ⟨rfl, h3⟩
    exact ⟨_, _, rfl, rfl, grown_trans (grown_alloc (grown_alloc (grown_refl _ _) _) _) h3⟩)))
  unfold mkOf
  simp only [Jb.val] at CL ⊢
  clear H H1 hT
  go_enter Try.func47, Try.ntmps47
  go_wp2_with fail
  refine CL.out.mono ?_
  rintro e w1 ⟨v, er', rfl, hv, hg⟩
  obtain ⟨rfl, rfl⟩ : v = .nilIface ∧ er' = er := by simpa using hv
  have HR := hide hg
  clear hv hg
  go_wp2_with fail
  go_ret2
  exact ⟨rfl, HR.out⟩
set_option maxHeartbeats 2000000 in
theorem room_ok (w : World) (sh : Shp) (h1 : 1 ≤ sh.f) (h2 : sh.f ≤ 64) : Calls Try.prog 20 #[sh.val, .int .i64 64] w fun e w' => e = .returned (.int .i64 0) ∧ w.grownBy w' none := by
  obtain ⟨s0, s1, s2, s3, s4, s5⟩ := sh
  simp only [Shp.val] at h1 h2 ⊢
  have g1 : ¬ s5 < 1 := by omega
  have g2 : ¬ 64 < s5 := by omega
  go_enter Try.func20, Try.ntmps20
  go_wp2
  go_ret
  exact ⟨rfl, grown_alloc (grown_refl _ _) _⟩
set_option maxHeartbeats 2000000 in
theorem room_bad (w : World) (sh : Shp) (h : sh.f < 1 ∨ 64 < sh.f) : Calls Try.prog 20 #[sh.val, .int .i64 64] w fun e w' => e = .returned (.int .i64 120) ∧ w.grownBy w' none := by
  obtain ⟨s0, s1, s2, s3, s4, s5⟩ := sh
  simp only [Shp.val] at h ⊢
  by_cases g1 : s5 < 1
  · go_enter Try.func20, Try.ntmps20
    go_wp2
    go_ret
    exact ⟨rfl, grown_alloc (grown_refl _ _) _⟩
  · have g2 : 64 < s5 := by omega
    go_enter Try.func20, Try.ntmps20
    go_wp2
    go_ret
    exact ⟨rfl, grown_alloc (grown_refl _ _) _⟩

end Go.Proofs.Ytmkkkknalldckaa

/-
  The run in memory behind a step, from what the step left in each role's block.
-/
namespace Go.Proofs.Ytmkkkknalldckaa
open Go.RowKit
set_option linter.unusedVariables false
set_option linter.unusedSimpArgs false

theorem Grows.congr {blk blk' : Rl → Nat} {c c' : Rl → Option Row} {r : Rl} {e : TypeId} {sz k : Nat} {xs : List Value} {v : Value} (h : Grows blk c r e sz k xs v) (h1 : blk' r = blk r) (h2 : c' r = c r) : Grows blk' c' r e sz k xs v := by
  unfold Grows at h ⊢
  rw [h1, h2]
  exact h

variable {K : Kd} {P : Par} {blk blk' : Rl → Nat} {c c' : Rl → Option Row} {st : St K} {h : Nat} {x : Stp} {f' : Nat → Int}

/-- A step behind which the task goes on. -/
theorem Good.goesOn (G : Good K P blk c st) (hK : K.Ok) (hh : h < P.nh) (hd : st.done h < P.jn h) (hx : stepOf P.n st.f (K.req (st.cur h)) = x) (hf : wordsOf P.n st.f (K.req (st.cur h)) = f')
    (hend : ¬ K.ends (st.cur h) x = true) (hw : ∀ i, i < P.n → 0 ≤ f' i ∧ f' i ≤ 18446744073709551615)
    (hb : ∀ r, r ≠ .steps → blk' r = blk r) (hc : ∀ r, r ≠ .steps → r ≠ .run → r ≠ .words → r ≠ .task h (st.done h) → c' r = c r)
    (eW : c' .words = some ⟨129, P.n, fun i => .int .u64 (f' i)⟩) (eK : c' (.task h (st.done h)) = some ⟨K.t (P.jb h (st.done h)), K.n (P.jb h (st.done h)), K.cell (blk (.task h (st.done h))) (K.next (st.cur h) x)⟩)
    {RF : Nat → Value} (eR : c' .run = some ⟨117, 5, RF⟩) (R0 : RF 0 = .slice (some ⟨blk .tasks, 0, none⟩) P.nh P.nh) (R1 : RF 1 = .slice (some ⟨blk .going, 0, none⟩) P.nh P.nh) (R2 : RF 2 = .int .i64 h)
    (R4 : RF 4 = .slice (some ⟨blk .answers, 0, none⟩) P.nh P.nh) (R3 : Grows blk' c' .steps 38 6 (st.k + 1) (stepCells st.s st.k ++ x.cells) (RF 3)) : Good K P blk' c' (stepSt P st h) := by
  have hdone : (stepSt P st h).done = st.done := by simp only [stepSt, hx]; rw [if_neg hend]
  have hans : (stepSt P st h).ans = st.ans := by simp only [stepSt, hx]; rw [if_neg hend]
  have hcur : (stepSt P st h).cur = upd st.cur h (K.next (st.cur h) x) := by simp only [stepSt, hx]; rw [if_neg hend]
  have hgo : (stepSt P st h).going P = st.going P := by funext i; simp only [St.going, hdone]
  refine ⟨?_, ?_, G.most, ?_, ?_, ?_, ?_, ?_, ?_, ?_, ?_, G.jobs, G.hands, ?_, G.jwf, ?_⟩
  · rw [hc _ (by simp) (by simp) (by simp) (by simp), hb _ (by simp)]; exact G.mem
  · rw [eW]; simp only [stepSt, hf]
  · simp only [stepSt, hf]; exact hw
  · refine ⟨RF 3, RF, eR, by rw [hb _ (by simp)]; exact R0, by rw [hb _ (by simp)]; exact R1, R2, rfl, by rw [hb _ (by simp)]; exact R4, ?_⟩
    have : stepCells (stepSt P st h).s (stepSt P st h).k = stepCells st.s st.k ++ x.cells := by
      simp only [stepSt, hx, stepCells, upd_same]
      rw [stepCells_congr (b := st.s) (fun j hj => upd_other _ _ (by omega))]
    rw [this]; exact R3
  · obtain ⟨T, eT, hT⟩ := G.tasks
    refine ⟨T, by rw [hc _ (by simp) (by simp) (by simp) (by simp)]; exact eT, ?_⟩
    rw [hdone]
    intro i hi
    rw [hb _ (by simp)]
    exact hT i hi
  · obtain ⟨Gf, eG, hG⟩ := G.going
    exact ⟨Gf, by rw [hc _ (by simp) (by simp) (by simp) (by simp)]; exact eG, by rw [hgo]; exact hG⟩
  · obtain ⟨A, eA, hA⟩ := G.answers
    refine ⟨A, by rw [hc _ (by simp) (by simp) (by simp) (by simp)]; exact eA, ?_⟩
    rw [hdone, hans]
    exact fun i hi => (hA i hi).congr (hb _ (by simp)) (hc _ (by simp) (by simp) (by simp) (by simp))
  · intro i hi hj
    obtain ⟨cap, F, e1, e2, e3⟩ := G.trow i hi hj
    exact ⟨cap, F, by rw [hc _ (by simp) (by simp) (by simp) (by simp)]; exact e1, e2, fun j hj => by rw [hb _ (by simp)]; exact e3 j hj⟩
  · intro i hi j h1 h2
    rw [hdone] at h1 ⊢
    rw [hcur]
    by_cases hih : i = h
    · subst hih
      by_cases hj : j = st.done i
      · subst hj; rw [if_pos rfl, upd_same, hb _ (by simp)]; exact eK
      · rw [if_neg hj, hc _ (by simp) (by simp) (by simp) (by simp [hj]), hb _ (by simp)]
        have := G.task i hi j h1 h2
        rwa [if_neg hj] at this
    · rw [upd_other _ _ hih, hc _ (by simp) (by simp) (by simp) (by simp [hih]), hb _ (by simp)]
      exact G.task i hi j h1 h2
  · rw [hdone]; exact G.doneLe
  · rw [hdone, hcur]
    intro i hi hl
    by_cases hih : i = h
    · subst hih; rw [upd_same]; have hend' := hend; rw [← hx] at hend' ⊢; exact hK.next _ _ _ _ G.word (G.wf i hi hl) hend'
    · rw [upd_other _ _ hih]; exact G.wf i hi hl
  · simp only [stepSt]; omega

/-- A step behind which the task has ended. -/
theorem Good.ended (G : Good K P blk c st) (hK : K.Ok) (hh : h < P.nh) (hd : st.done h < P.jn h) (hx : stepOf P.n st.f (K.req (st.cur h)) = x) (hf : wordsOf P.n st.f (K.req (st.cur h)) = f')
    (hend : K.ends (st.cur h) x = true) (hw : ∀ i, i < P.n → 0 ≤ f' i ∧ f' i ≤ 18446744073709551615)
    (hb : ∀ r, r ≠ .steps → r ≠ .arow h → blk' r = blk r)
    (hc : ∀ r, r ≠ .steps → r ≠ .run → r ≠ .words → r ≠ .task h (st.done h) → r ≠ .arow h → r ≠ .answers → r ≠ .tasks → r ≠ .going → c' r = c r)
    (eW : c' .words = some ⟨129, P.n, fun i => .int .u64 (f' i)⟩)
    {RF : Nat → Value} (eR : c' .run = some ⟨117, 5, RF⟩) (R0 : RF 0 = .slice (some ⟨blk .tasks, 0, none⟩) P.nh P.nh) (R1 : RF 1 = .slice (some ⟨blk .going, 0, none⟩) P.nh P.nh) (R2 : RF 2 = .int .i64 h)
    (R4 : RF 4 = .slice (some ⟨blk .answers, 0, none⟩) P.nh P.nh) (R3 : Grows blk' c' .steps 38 6 (st.k + 1) (stepCells st.s st.k ++ x.cells) (RF 3))
    {T T' : Nat → Value} (eT : c .tasks = some ⟨133, P.nh, T⟩) (eT' : c' .tasks = some ⟨133, P.nh, T'⟩) (hT' : ∀ i, i ≠ h → T' i = T i) {ao : Option Addr} {tc : Nat} (hTh : T' h = .slice ao (P.jn h - (st.done h + 1)) tc)
    (hao : st.done h + 1 < P.jn h → ao = some ⟨blk (.trow h), st.done h + 1, none⟩ ∧ P.jn h - (st.done h + 1) ≤ tc)
    {Gf Gf' : Nat → Value} (eG : c .going = some ⟨4, P.nh, Gf⟩) (eG' : c' .going = some ⟨4, P.nh, Gf'⟩) (hG' : ∀ i, i ≠ h → Gf' i = Gf i) (hGh : Gf' h = .bool (decide (st.done h + 1 < P.jn h)))
    {A A' : Nat → Value} (eA : c .answers = some ⟨44, P.nh, A⟩) (eA' : c' .answers = some ⟨44, P.nh, A'⟩) (hA' : ∀ i, i ≠ h → A' i = A i)
    (hAh : Grows blk' c' (.arow h) 46 2 (st.done h + 1) (ansCells (st.ans h) (st.done h) ++ (K.tell (K.next (st.cur h) x)).cells) (A' h)) : Good K P blk' c' (stepSt P st h) := by
  have hdone : (stepSt P st h).done = upd st.done h (st.done h + 1) := by simp only [stepSt, hx]; rw [if_pos hend]
  have hans : (stepSt P st h).ans = upd st.ans h (upd (st.ans h) (st.done h) (K.tell (K.next (st.cur h) x))) := by simp only [stepSt, hx]; rw [if_pos hend]
  have hcur : (stepSt P st h).cur = upd st.cur h (K.init h (P.jb h (st.done h + 1))) := by simp only [stepSt, hx]; rw [if_pos hend]
  have d1 : ∀ i, i ≠ h → (stepSt P st h).done i = st.done i := fun i hi => by rw [hdone, upd_other _ _ hi]
  have d2 : (stepSt P st h).done h = st.done h + 1 := by rw [hdone, upd_same]
  refine ⟨?_, ?_, G.most, ?_, ?_, ?_, ?_, ?_, ?_, ?_, ?_, G.jobs, G.hands, ?_, G.jwf, ?_⟩
  · rw [hc _ (by simp) (by simp) (by simp) (by simp) (by simp) (by simp) (by simp) (by simp), hb _ (by simp) (by simp)]; exact G.mem
  · rw [eW]; simp only [stepSt, hf]
  · simp only [stepSt, hf]; exact hw
  · refine ⟨RF 3, RF, eR, by rw [hb _ (by simp) (by simp)]; exact R0, by rw [hb _ (by simp) (by simp)]; exact R1, R2, rfl, by rw [hb _ (by simp) (by simp)]; exact R4, ?_⟩
    have : stepCells (stepSt P st h).s (stepSt P st h).k = stepCells st.s st.k ++ x.cells := by
      simp only [stepSt, hx, stepCells, upd_same]
      rw [stepCells_congr (b := st.s) (fun j hj => upd_other _ _ (by omega))]
    rw [this]; exact R3
  · obtain ⟨T0, eT0, hT0⟩ := G.tasks
    obtain rfl : T = T0 := by rw [eT] at eT0; cases eT0; rfl
    refine ⟨T', eT', fun i hi => ?_⟩
    rw [hb _ (by simp) (by simp)]
    by_cases hih : i = h
    · subst hih
      rw [d2, hTh]
      refine ⟨fun hl => ?_, fun he => ⟨ao, tc, by rw [he, Nat.sub_self]⟩⟩
      obtain ⟨e, hle⟩ := hao hl
      exact ⟨tc, hle, by rw [e]⟩
    · rw [d1 i hih, hT' i hih]
      exact hT0 i hi
  · obtain ⟨G0, eG0, hG0⟩ := G.going
    obtain rfl : Gf = G0 := by rw [eG] at eG0; cases eG0; rfl
    refine ⟨Gf', eG', fun i hi => ?_⟩
    by_cases hih : i = h
    · subst hih
      rw [hGh]; simp only [St.going, d2]
    · rw [hG' i hih, hG0 i hi]; simp only [St.going, d1 i hih]
  · obtain ⟨A0, eA0, hA0⟩ := G.answers
    obtain rfl : A = A0 := by rw [eA] at eA0; cases eA0; rfl
    refine ⟨A', eA', fun i hi => ?_⟩
    by_cases hih : i = h
    · subst hih
      rw [d2]
      have : ansCells ((stepSt P st i).ans i) (st.done i + 1) = ansCells (st.ans i) (st.done i) ++ (K.tell (K.next (st.cur i) x)).cells := by
        rw [hans, upd_same]
        simp only [ansCells, upd_same]
        rw [ansCells_congr (b := st.ans i) (fun j hj => upd_other _ _ (by omega))]
      rw [this]; exact hAh
    · rw [d1 i hih, hA' i hih, hans, upd_other _ _ hih]
      exact (hA0 i hi).congr (hb _ (by simp) (by simp [hih])) (hc _ (by simp) (by simp) (by simp) (by simp) (by simp [hih]) (by simp) (by simp) (by simp))
  · intro i hi hj
    obtain ⟨cap, F, e1, e2, e3⟩ := G.trow i hi hj
    exact ⟨cap, F, by rw [hc _ (by simp) (by simp) (by simp) (by simp) (by simp) (by simp) (by simp) (by simp)]; exact e1, e2, fun j hj => by rw [hb _ (by simp) (by simp)]; exact e3 j hj⟩
  · intro i hi j h1 h2
    rw [hcur]
    by_cases hih : i = h
    · subst hih
      rw [d2] at h1 ⊢
      rw [upd_same, hc _ (by simp) (by simp) (by simp) (by simp; omega) (by simp) (by simp) (by simp) (by simp), hb _ (by simp) (by simp)]
      have := G.task i hi j (by omega) h2
      rw [if_neg (by omega)] at this
      rw [this]
      split
      · rename_i e; rw [e]
      · rfl
    · rw [d1 i hih] at h1 ⊢
      rw [upd_other _ _ hih, hc _ (by simp) (by simp) (by simp) (by simp [hih]) (by simp) (by simp) (by simp) (by simp), hb _ (by simp) (by simp)]
      exact G.task i hi j h1 h2
  · intro i hi
    by_cases hih : i = h
    · subst hih; rw [d2]; omega
    · rw [d1 i hih]; exact G.doneLe i hi
  · rw [hcur]
    intro i hi hl
    by_cases hih : i = h
    · subst hih; rw [d2] at hl ⊢; rw [upd_same]; exact hK.init _ _ (G.jwf i hi _ hl)
    · rw [upd_other _ _ hih]; rw [d1 i hih] at hl ⊢; exact G.wf i hi hl
  · simp only [stepSt]; omega
end Go.Proofs.Ytmkkkknalldckaa

/-
  What the step of a run needs: two blocks written at once, rows that grow, elements laid in blocks of their own.
-/
namespace Go.Proofs.Ytmkkkknalldckaa
open Go.RowKit
set_option linter.unusedVariables false
set_option linter.unusedSimpArgs false
set_option linter.unusedSectionVars false
set_option maxRecDepth 20000

theorem Has.write2 {ι : Type} [DecidableEq ι] {w w' : World} {base : Nat} {blk : ι → Nat} {c : ι → Option Row} (h : Has w base blk c) (r1 r2 : ι) (x1 x2 : Row) {y1 y2 : Row} (e1 : c r1 = some y1) (e2 : c r2 = some y2) (hne : r1 ≠ r2)
    (ht : Touch w w' (fun k => k = blk r1 ∨ k = blk r2)) (h1 : w'.rowIs (blk r1) x1.t x1.n x1.f) (h2 : w'.rowIs (blk r2) x2.t x2.n x2.f) : Has w' base blk (upd (upd c r1 (some x1)) r2 (some x2)) := by
  refine ⟨fun r r' x x' e e' hb => ?_, fun r x e => ?_, fun r x e => ?_⟩
  · have key : ∀ r x, upd (upd c r1 (some x1)) r2 (some x2) r = some x → ∃ y, c r = some y := by
      intro r x e
      by_cases hr2 : r = r2
      · subst hr2; exact ⟨_, e2⟩
      · rw [upd_other _ _ hr2] at e
        by_cases hr1 : r = r1
        · subst hr1; exact ⟨_, e1⟩
        · rw [upd_other _ _ hr1] at e; exact ⟨_, e⟩
    obtain ⟨y, hy⟩ := key r x e
    obtain ⟨y', hy'⟩ := key r' x' e'
    exact h.inj r r' y y' hy hy' hb
  · by_cases hr2 : r = r2
    · subst hr2; rw [upd_same] at e; cases e; exact h2
    · rw [upd_other _ _ hr2] at e
      by_cases hr1 : r = r1
      · subst hr1; rw [upd_same] at e; cases e; exact h1
      · rw [upd_other _ _ hr1] at e
        exact (h.row r x e).of_block (ht.block _ (h.lt e) (fun hk => by rcases hk with hk | hk; exact h.ne e e1 hr1 hk; exact h.ne e e2 hr2 hk))
  · by_cases hr2 : r = r2
    · subst hr2; exact h.new _ _ e2
    · rw [upd_other _ _ hr2] at e
      by_cases hr1 : r = r1
      · subst hr1; exact h.new _ _ e1
      · rw [upd_other _ _ hr1] at e; exact h.new _ _ e

theorem Good.isMem {K : Kd} {P : Par} {blk : Rl → Nat} {c : Rl → Option Row} {st : St K} {w : World} {base : Nat} (G : Good K P blk c st) (H : Has w base blk c) : IsMem w (blk .mem) (blk .words) P.n st.f :=
  ⟨H.row _ _ G.mem, H.row _ _ G.words, G.most, G.word⟩

theorem Grows.upd {blk : Rl → Nat} {c : Rl → Option Row} {r r' : Rl} {e : TypeId} {sz k : Nat} {xs : List Value} {v : Value} (h : Grows blk c r e sz k xs v) (hne : r ≠ r') (x : Option Row) (nb : Nat) : Grows (upd blk r' nb) (upd c r' x) r e sz k xs v := by
  unfold Grows at h ⊢
  rw [upd_other _ _ hne, upd_other _ _ hne]
  exact h
theorem Grows.upd' {blk : Rl → Nat} {c : Rl → Option Row} {r r' : Rl} {e : TypeId} {sz k : Nat} {xs : List Value} {v : Value} (h : Grows blk c r e sz k xs v) (hne : r ≠ r') (x : Option Row) : Grows blk (Ytmkkkknalldckaa.upd c r' x) r e sz k xs v := by
  unfold Grows at h ⊢
  rw [upd_other _ _ hne]
  exact h

theorem info48z : (Try.prog.info? 38).map (fun i => (i.zero, i.size, i.bytes)) = some (some (.agg #[.int .i64 0, .int .i64 0, .int .i64 0, .int .u64 0, .int .u64 0, .bool false]), 6, 48) := by kernel_rfl
theorem info54z : (Try.prog.info? 46).map (fun i => (i.zero, i.size, i.bytes)) = some (some (.agg #[.bool false, .int .u64 0]), 2, 16) := by kernel_rfl

/-- An element laid in a new block of its own. -/
theorem cells_new (w : World) (vs : Array Value) (t : TypeId) : ∀ j u, vs.toList[j]? = some u → (w.alloc (.cells vs t)).cell? (Addr.add ⟨w.heap.size, 0, none⟩ j) = some u := by
  intro j u hj
  have hj' : vs[j]? = some u := by simpa using hj
  simp only [Addr.add, Nat.zero_add]
  by_cases h0 : j = 0
  · subst h0; simp [hj']
  · simp [h0, hj']
theorem step_one (x : Stp) : ∀ u ∈ x.cells, u.oneCell' = true := by
  intro u hu
  simp [Stp.cells] at hu
  rcases hu with rfl | rfl | rfl | rfl | rfl | rfl <;> rfl
theorem ans_one (x : Ans) : ∀ u ∈ x.cells, u.oneCell' = true := by
  intro u hu
  simp [Ans.cells] at hu
  rcases hu with rfl | rfl <;> rfl

theorem below_of_grown_none {a b : World} (h : a.grownBy b none) (B : Nat) (hB : B ≤ a.heap.size) : Below B a b := ⟨h.os, h.tape, h.output, h.size, fun k hk => h.block k (by omega) (by simp)⟩
end Go.Proofs.Ytmkkkknalldckaa

/-
  Hands, jobs, schedules as they are seen; the checks of them, the program's and the document's.
-/
namespace Go.Proofs.Ytmkkkknalldckaa
open Go.RowKit
set_option linter.unusedVariables false
set_option linter.unusedSimpArgs false
set_option maxRecDepth 20000

def SeesI (w : World) (B : Nat) (ao : Option Addr) (n : Nat) (s : Nat → Int) : Prop :=
  ∀ j, j < n → ∃ b off, ao = some ⟨b, off, none⟩ ∧ b < B ∧ w.cell? ⟨b, off + j, none⟩ = some (.int .i64 (s j))
def SeesJ (w : World) (B : Nat) (ao : Option Addr) (n : Nat) (j : Nat → Jb) : Prop :=
  ∀ i, i < n → ∃ b off, ao = some ⟨b, off, none⟩ ∧ b < B ∧ ∀ q, q < 5 → w.cell? ⟨b, off + i * 5 + q, none⟩ = some ((j i).cell q)
def SeesH (w : World) (B : Nat) (ao : Option Addr) (nh : Nat) (jn : Nat → Nat) (jb : Nat → Nat → Jb) : Prop :=
  ∀ h, h < nh → ∃ b off ao' cap, ao = some ⟨b, off, none⟩ ∧ b < B ∧ w.cell? ⟨b, off + h, none⟩ = some (.slice ao' (jn h) cap) ∧ SeesJ w B ao' (jn h) (jb h)

section
variable {w w' : World} {B C : Nat} {ao : Option Addr} {n nh : Nat}
theorem SeesI.below {s : Nat → Int} (h : SeesI w B ao n s) (hb : Below C w w') (hBC : B ≤ C) : SeesI w' B ao n s :=
  fun j hj => by obtain ⟨b, off, e, hl, hc⟩ := h j hj; exact ⟨b, off, e, hl, (hb.cell (p := ⟨b, off + j, none⟩) (by show b < C; omega)).trans hc⟩
theorem SeesJ.below {j : Nat → Jb} (h : SeesJ w B ao n j) (hb : Below C w w') (hBC : B ≤ C) : SeesJ w' B ao n j :=
  fun i hi => by obtain ⟨b, off, e, hl, hc⟩ := h i hi; exact ⟨b, off, e, hl, fun q hq => (hb.cell (p := ⟨b, off + i * 5 + q, none⟩) (by show b < C; omega)).trans (hc q hq)⟩
theorem SeesH.below {jn : Nat → Nat} {jb : Nat → Nat → Jb} (h : SeesH w B ao nh jn jb) (hb : Below C w w') (hBC : B ≤ C) : SeesH w' B ao nh jn jb :=
  fun i hi => by obtain ⟨b, off, ao', cap, e, hl, hc, hj⟩ := h i hi; exact ⟨b, off, ao', cap, e, hl, (hb.cell (p := ⟨b, off + i, none⟩) (by show b < C; omega)).trans hc, hj.below hb hBC⟩
end

/-- Rule 8's ErrLong of the hands. -/
def LongHands (nh : Nat) (jn : Nat → Nat) : Prop := 8 < nh ∨ ∃ h, h < nh ∧ 256 < jn h

section
variable {w : World} {B : Nat} {ao aos : Option Addr} {nh cap ns caps : Nat} {jn : Nat → Nat} {jb : Nat → Nat → Jb}

theorem checkHands_ok (H0 : SeesH w B ao nh jn jb) (h : ¬ LongHands nh jn) :
    Calls Try.prog 46 #[.slice ao nh cap] w fun e w' => e = .returned (.int .i64 0) ∧ w' = w := by
  have hn : nh ≤ 8 := by rcases Nat.lt_or_ge 8 nh with l | l; exact absurd (.inl l) h; exact l
  have hj : ∀ i, i < nh → jn i ≤ 256 := fun i hi => by rcases Nat.lt_or_ge 256 (jn i) with l | l; exact absurd (.inr ⟨i, hi, l⟩) h; exact l
  have H := hide H0
  have HJ := hide hj
  clear H0 h hj
  go_enter Try.func46, Try.ntmps46
  go_wp2_with fail
  go_loopw [10] (fun i wr => ∃ k : Nat, k ≤ nh ∧ i = .int .i64 k ∧ wr = w) (fun i _ => nh - (intOf i).toNat)
  case atStart => exact ⟨0, Nat.zero_le _, rfl, rfl⟩
  case round =>
    obtain ⟨k, hk, rfl, rfl⟩ := hrel
    by_cases hlt : k < nh
    · obtain ⟨b, off, ao', cap', rfl, hbl, hcc, _⟩ := H.out k hlt
      have hkn : (k : Int) < (nh : Int) := by omega
      have hjk := HJ.out k hlt
      go_wp2
      go_roundw
      case rel => exact ⟨k + 1, by omega, by go_num, by first | rfl | trivial⟩
      case measure => simp [intOf]; omega
    · obtain rfl : k = nh := by omega
      go_wp2
      go_ret
      exact ⟨rfl, rfl⟩

theorem checkHands_long (H0 : SeesH w B ao nh jn jb) (hn63 : nh ≤ 9223372036854775807) (h : LongHands nh jn) :
    Calls Try.prog 46 #[.slice ao nh cap] w fun e w' => e = .returned (.int .i64 1) ∧ w' = w := by
  by_cases hn : 8 < nh
  · have hni : (8 : Int) < (nh : Int) := by omega
    go_enter Try.func46, Try.ntmps46
    go_wp2
    go_ret
    exact ⟨rfl, rfl⟩
  · obtain ⟨i0, hi0, hj0⟩ : ∃ i, i < nh ∧ 256 < jn i := by rcases h with h | h; exact absurd h hn; exact h
    have H := hide H0
    clear H0 h
    go_enter Try.func46, Try.ntmps46
    go_wp2_with fail
    go_loopw [10] (fun i wr => ∃ k : Nat, k ≤ i0 ∧ i = .int .i64 k ∧ wr = w) (fun i _ => nh - (intOf i).toNat)
    case atStart => exact ⟨0, Nat.zero_le _, rfl, rfl⟩
    case round =>
      obtain ⟨k, hk, rfl, rfl⟩ := hrel
      have hlt : k < nh := by omega
      obtain ⟨b, off, ao', cap', rfl, hbl, hcc, _⟩ := H.out k hlt
      have hkn : (k : Int) < (nh : Int) := by omega
      by_cases hjk : 256 < jn k
      · have hjk' : (256 : Int) < (jn k : Int) := by omega
        go_wp2
        go_ret
        exact ⟨rfl, rfl⟩
      · have hki : k ≠ i0 := fun e => hjk (e ▸ hj0)
        go_wp2
        go_roundw
        case rel => exact ⟨k + 1, by omega, by go_num, by first | rfl | trivial⟩
        case measure => simp [intOf]; omega

theorem checkRun_ok (H0 : SeesH w B ao nh jn jb) (h : ¬ LongHands nh jn) (hs : ns ≤ 65536) (most : Int) (hm : 0 ≤ most) (hm2 : most ≤ 65536) :
    Calls Try.prog 37 #[.slice ao nh cap, .slice aos ns caps, .int .i64 most] w fun e w' => e = .returned (.int .i64 0) ∧ w' = w := by
  go_enter Try.func37, Try.ntmps37
  go_wp2_with (go_at_call 46; refine (checkHands_ok H0 h).mono ?_; rintro e w' ⟨rfl, hw⟩; obtain rfl := hw.symm)
  go_ret
  exact ⟨rfl, rfl⟩
theorem checkRun_long (H0 : SeesH w B ao nh jn jb) (hn63 : nh ≤ 9223372036854775807) (most : Int) (h : LongHands nh jn ∨ 65536 < ns ∨ 65536 < most) :
    Calls Try.prog 37 #[.slice ao nh cap, .slice aos ns caps, .int .i64 most] w fun e w' => e = .returned (.int .i64 1) ∧ w' = w := by
  by_cases hl : LongHands nh jn
  · go_enter Try.func37, Try.ntmps37
    go_wp2_with (go_at_call 46; refine (checkHands_long H0 hn63 hl).mono ?_; rintro e w' ⟨rfl, hw⟩; obtain rfl := hw.symm)
    go_ret
    exact ⟨rfl, rfl⟩
  · by_cases h1 : 65536 < ns
    · have h1' : (65536 : Int) < (ns : Int) := by omega
      go_enter Try.func37, Try.ntmps37
      go_wp2_with (go_at_call 46; refine (checkHands_ok H0 hl).mono ?_; rintro e w' ⟨rfl, hw⟩; obtain rfl := hw.symm)
      go_ret
      exact ⟨rfl, rfl⟩
    · have h2 : 65536 < most := by rcases h with h | h | h; exact absurd h hl; exact absurd h h1; exact h
      go_enter Try.func37, Try.ntmps37
      go_wp2_with (go_at_call 46; refine (checkHands_ok H0 hl).mono ?_; rintro e w' ⟨rfl, hw⟩; obtain rfl := hw.symm)
      go_ret
      exact ⟨rfl, rfl⟩
theorem checkRun_arg (H0 : SeesH w B ao nh jn jb) (h : ¬ LongHands nh jn) (hs : ns ≤ 65536) (most : Int) (hm : most < 0) :
    Calls Try.prog 37 #[.slice ao nh cap, .slice aos ns caps, .int .i64 most] w fun e w' => e = .returned (.int .i64 2) ∧ w' = w := by
  go_enter Try.func37, Try.ntmps37
  go_wp2_with (go_at_call 46; refine (checkHands_ok H0 h).mono ?_; rintro e w' ⟨rfl, hw⟩; obtain rfl := hw.symm)
  go_ret
  exact ⟨rfl, rfl⟩
end
end Go.Proofs.Ytmkkkknalldckaa

/-
  Tasks as they are made, one behind the other: what stands in memory behind the first m h of each hand's.
-/
namespace Go.Proofs.Ytmkkkknalldckaa
open Go.RowKit
set_option linter.unusedVariables false
set_option linter.unusedSimpArgs false

/-- The interface values of a hand's first tasks. -/
def ifs (K : Kd) (P : Par) (blk : Rl → Nat) (h : Nat) : Nat → List Value
  | 0 => []
  | k + 1 => ifs K P blk h k ++ [.iface (K.tid (P.jb h k)) (.pointer (some ⟨blk (.task h k), 0, none⟩))]
theorem ifs_length (K : Kd) (P : Par) (blk : Rl → Nat) (h k : Nat) : (ifs K P blk h k).length = k * 1 := by
  induction k with
  | zero => rfl
  | succ k ih => simp [ifs, ih]
theorem ifs_congr {K : Kd} {P : Par} {blk blk' : Rl → Nat} {h k : Nat} (e : ∀ j, j < k → blk' (.task h j) = blk (.task h j)) : ifs K P blk' h k = ifs K P blk h k := by
  induction k with
  | zero => rfl
  | succ k ih => simp only [ifs]; rw [ih (fun j hj => e j (by omega)), e k (by omega)]
theorem ifs_get {K : Kd} {P : Par} {blk : Rl → Nat} {h k j : Nat} (hj : j < k) : (ifs K P blk h k)[j]? = some (.iface (K.tid (P.jb h j)) (.pointer (some ⟨blk (.task h j), 0, none⟩))) := by
  induction k with
  | zero => omega
  | succ k ih =>
    simp only [ifs]
    by_cases e : j = k
    · subst e
      rw [List.getElem?_append_right (by rw [ifs_length]; omega), ifs_length]
      simp
    · rw [List.getElem?_append_left (by rw [ifs_length]; omega)]
      exact ih (by omega)

def mUp (jn : Nat → Nat) (i j : Nat) : Nat → Nat := fun h => if h < i then jn h else if h = i then j else 0
theorem mUp_next (jn : Nat → Nat) (i : Nat) : mUp jn i (jn i) = mUp jn (i + 1) 0 := by
  funext h
  unfold mUp
  by_cases h1 : h < i
  · rw [if_pos h1, if_pos (by omega)]
  · by_cases h2 : h = i
    · rw [if_neg h1, if_pos h2, if_pos (by omega), h2]
    · rw [if_neg h1, if_neg h2, if_neg (by omega)]; split <;> rfl
theorem mUp_self (jn : Nat → Nat) (i j : Nat) : mUp jn i j i = j := by unfold mUp; rw [if_neg (by omega), if_pos rfl]
theorem mUp_succ (jn : Nat → Nat) (i j h : Nat) (hne : h ≠ i) : mUp jn i (j + 1) h = mUp jn i j h := by unfold mUp; rw [if_neg hne, if_neg hne]
theorem mUp_all (jn : Nat → Nat) (n h : Nat) (hh : h < n) : mUp jn n 0 h = jn h := by unfold mUp; rw [if_pos hh]

structure Made (K : Kd) (P : Par) (blk0 : Rl → Nat) (c0 : Rl → Option Row) (blk : Rl → Nat) (c : Rl → Option Row) (m : Nat → Nat) : Prop where
  mem : c .mem = c0 .mem
  words : c .words = c0 .words
  bm : blk .mem = blk0 .mem
  bw : blk .words = blk0 .words
  free : c .run = none ∧ c .going = none ∧ c .answers = none ∧ c .steps = none ∧ ∀ h, c (.arow h) = none
  tasks : ∃ T, c .tasks = some ⟨133, P.nh, T⟩ ∧ ∀ h, h < P.nh → Grows blk c (.trow h) 93 1 (m h) (ifs K P blk h (m h)) (T h)
  task : ∀ h, h < P.nh → ∀ j, j < m h → c (.task h j) = some ⟨K.t (P.jb h j), K.n (P.jb h j), K.cell (blk (.task h j)) (K.init h (P.jb h j))⟩

/-- The first error that the jobs make. -/
def FirstErr (K : Kd) (P : Par) (e : Int) : Prop :=
  ∃ H J, H < P.nh ∧ J < P.jn H ∧ K.err H (P.jb H J) = e ∧ e ≠ 0 ∧ (∀ h, h < H → ∀ j, j < P.jn h → K.err h (P.jb h j) = 0) ∧ ∀ j, j < J → K.err H (P.jb H j) = 0
def AllOk (K : Kd) (P : Par) : Prop := ∀ h, h < P.nh → ∀ j, j < P.jn h → K.err h (P.jb h j) = 0

theorem FirstErr.one {K : Kd} {P : Par} {e e' : Int} (h : FirstErr K P e) (h' : FirstErr K P e') : e = e' := by
  obtain ⟨H, J, h1, h2, h3, h4, h5, h6⟩ := h
  obtain ⟨H', J', h1', h2', h3', h4', h5', h6'⟩ := h'
  rcases Nat.lt_trichotomy H H' with l | rfl | l
  · exact absurd (h5' H l J h2) (by rw [h3]; exact h4)
  · rcases Nat.lt_trichotomy J J' with l | rfl | l
    · exact absurd (h6' J l) (by rw [h3]; exact h4)
    · rw [← h3, ← h3']
    · exact absurd (h6 J' l) (by rw [h3']; exact h4')
  · exact absurd (h5 H' l J' h2') (by rw [h3']; exact h4')
theorem FirstErr.not {K : Kd} {P : Par} {e : Int} (h : FirstErr K P e) : ¬ AllOk K P := fun ha => by
  obtain ⟨H, J, h1, h2, h3, h4, _⟩ := h
  exact h4 (by rw [← h3]; exact ha H h1 J h2)

variable {K : Kd} {P : Par} {blk0 blk blk' : Rl → Nat} {c0 c c' : Rl → Option Row} {m : Nat → Nat} {w w' : World} {base : Nat}

/-- One task more: its block, then the hand's row with its interface value. -/
theorem Made.more {i j nb nb2 cap : Nat} {F : Nat → Value} {T : Nat → Value} {v : Value} {jn : Nat → Nat} (M : Made K P blk0 c0 blk c (mUp jn i j)) (hi : i < P.nh)
    (eT : c .tasks = some ⟨133, P.nh, T⟩)
    (hv : v = .slice (some ⟨nb2, 0, none⟩) (j + 1) cap) (hp : Pre F (ifs K P (upd blk (.task i j) nb) i (j + 1))) (hc1 : j + 1 ≤ cap) (hc2 : cap ≤ maxLen) :
    Made K P blk0 c0 (upd (upd blk (.task i j) nb) (.trow i) nb2)
      (upd (upd (upd c (.task i j) (some ⟨K.t (P.jb i j), K.n (P.jb i j), K.cell nb (K.init i (P.jb i j))⟩)) (.trow i) (some ⟨93, cap * 1, F⟩)) .tasks (some ⟨133, P.nh, fun k => if k = i then v else T k⟩)) (mUp jn i (j + 1)) := by
  refine ⟨by simpa [upd] using M.mem, by simpa [upd] using M.words, by simpa [upd] using M.bm, by simpa [upd] using M.bw, ?_, ⟨fun k => if k = i then v else T k, by simp [upd], fun h hh => ?_⟩, fun h hh k hk => ?_⟩
  · obtain ⟨f1, f2, f3, f4, f5⟩ := M.free
    exact ⟨by simpa [upd] using f1, by simpa [upd] using f2, by simpa [upd] using f3, by simpa [upd] using f4, fun h => by simpa [upd] using f5 h⟩
  · obtain ⟨T0, eT0, hT0⟩ := M.tasks
    obtain rfl : T = T0 := by rw [eT] at eT0; cases eT0; rfl
    show Grows _ _ _ _ _ _ _ (if h = i then v else T h)
    by_cases e : h = i
    · subst e
      rw [mUp_self, if_pos rfl]
      refine .inr ⟨cap, F, by simpa [upd] using hv, by simp [upd], hc1, hc2, ?_⟩
      rw [ifs_congr (blk := upd blk (.task h j) nb) (fun k hk => by simp [upd])]
      exact hp
    · rw [mUp_succ _ _ _ _ e]
      rw [if_neg e]
      have := hT0 h hh
      rw [ifs_congr (blk := blk) (fun k hk => by simp [upd, e])]
      exact this.congr (by simp [upd, e]) (by simp [upd, e])
  · by_cases e : h = i
    · subst e
      rw [mUp_self] at hk
      by_cases ek : k = j
      · subst ek; simp [upd]
      · have := M.task h hh k (by rw [mUp_self]; omega)
        simpa [upd, ek] using this
    · rw [mUp_succ _ _ _ _ e] at hk
      have := M.task h hh k hk
      simpa [upd, e] using this
end Go.Proofs.Ytmkkkknalldckaa
