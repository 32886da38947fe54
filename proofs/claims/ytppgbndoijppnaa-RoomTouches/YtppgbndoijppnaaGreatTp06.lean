/-
  Lemmas: RBegin, WordV, WordS, HeapC.
-/
import Derived.Test.YtppgbndoijppnaaGreatTp05
import Derived.Deep.MidRow
import Derived.Test.YtppgbndoijppnaaGreatRows
import Derived.WalkKit
import Derived.WalkSpells
import Derived.WalkLawsBesides
import Derived.Laws.Bits64
import Derived.Deep.RegionWith
namespace Go.Proofs.YtppgbndoijppnaaGreat
set_option maxHeartbeats 8000000
open Go.RowKit
set_option linter.unusedVariables false
set_option linter.unusedSimpArgs false
set_option maxRecDepth 20000
section
structure Shp where
  a : Int
  b : Int
  c : Int
  d : Int
  e : Int
  f : Int
def Shp.val (s : Shp) : Value := .agg #[.int .i64 s.a, .int .i64 s.b, .int .i64 s.c, .int .i64 s.d, .int .i64 s.e, .int .i64 s.f]
def runCells (s : Shp) (vw vh vt vu vb vk vs va : Value) (la : Int) : List Value :=
  [.int .i64 s.a, .int .i64 s.b, .int .i64 s.c, .int .i64 s.d, .int .i64 s.e, .int .i64 s.f, vw, vh, vt, vu, vb, vk, vs, va, .int .i64 la]
def runVal (s : Shp) (vw vh vt vu vb vk vs va : Value) (la : Int) : Value := .agg (runCells s vw vh vt vu vb vk vs va la).toArray
section
variable {P : Program} {o : Oper} {a : Act} {w : World} {K : Act → World → Prop} {Q : Exit → Act → World → Prop}
theorem wp_value {v : Value} {w' : World} (h : (execOp a.eval o).run P w = .ok (.value v) w') (hk : K (a.put o.dst v) w') : o.wp P a w K Q := by
  unfold Oper.wp; rw [h]; exact hk
theorem wp_move (x : Operand) (ho : o.op = .move x) (h : K (a.put o.dst (a.eval x)) w) : o.wp P a w K Q :=
  wp_value (w' := w) (v := a.eval x) (by simp [execOp, ho]) h
theorem wp_make {t e : TypeId} {zc : Array Value} {size bytes n : Nat} (x : Operand) (ho : o.op = .makeSlice t x x) (hx : a.eval x = .int .i64 n) (ht : P.underlying t = some (.slice e)) (hinfo : (P.info? e).map (fun i => (i.zero.map Value.cells, i.size, i.bytes)) = some (some zc, size, bytes))
    (hbytes : bytes * n ≤ 281474976710656) (h63 : n ≤ 9223372036854775807)
    (h : K (a.put o.dst (.slice (some ⟨w.heap.size, 0, none⟩) n n)) (w.alloc (.cells (madeCells zc (n * size)) e))) : o.wp P a w K Q :=
  wp_value (by simp [execOp, ho, hx, run_make_z t e zc size bytes ht hinfo n hbytes h63 w, Result.andThen]) h
theorem wp_lit0 {t e : TypeId} {zc : Array Value} {size bytes : Nat} (ho : o.op = .buildSlice t 0 #[]) (ht : P.underlying t = some (.slice e)) (hinfo : (P.info? e).map (fun i => (i.zero.map Value.cells, i.size, i.bytes)) = some (some zc, size, bytes))
    (h : K (a.put o.dst (.slice (some ⟨w.heap.size, 0, none⟩) 0 0)) (w.alloc (.cells #[] e))) : o.wp P a w K Q := by
  obtain ⟨i, hi, hzz⟩ := Option.map_eq_some_iff.1 hinfo
  refine wp_value (w' := w.alloc (.cells #[] e)) (v := .slice (some ⟨w.heap.size, 0, none⟩) 0 0) ?_ h
  simp only [Prod.mk.injEq] at hzz
  obtain ⟨hz, hs, hb⟩ := hzz
  obtain ⟨z, hz, hzc⟩ := Option.map_eq_some_iff.1 hz
  simp [execOp, ho, go_sem, run_underlying ht w, sizeOf, typeInfo, hi, Result.andThen, newObj]
  rfl
theorem wp_append_lit {t e : TypeId} {i : TypeInfo} {z : Value} {size bytes base n : Nat} (s x : Operand) (ho : o.op = Op.call { callee := Callee.builtin Builtin.append, args := #[s, x], argTypes := #[t, t] })
    (ht : P.underlying t = some (.slice e)) (hi : P.info? e = some i) (hz : i.zero = some z) (hsize : i.size = size) (hby : i.bytes = bytes) (hzs : z.cells.size = size) (hsz : 0 < size)
    (v : Value) (hs : a.eval s = v) (hown : w.ownsRow base e size v 0 []) (ao : Option Addr) (c : Nat) (news : List Value) (hx : a.eval x = .slice ao n c) (hnil : ao = none → n = 0 ∧ c = 0) (hl : news.length = n * size)
    (hnews : ∀ ad, ao = some ad → ∀ j u, news[j]? = some u → w.cell? (ad.add j) = some u) (h1 : ∀ u ∈ news, u.oneCell' = true) (h63 : n ≤ maxLen) (hbytes : n * bytes ≤ 140737488355328) (hbase : base ≤ w.heap.size)
    (h : ∀ v' w', w'.ownsRow base e size v' n news → w.grownBy w' v.ownBlock → (v' = .slice none 0 0 → v = .slice none 0 0) → (v'.ownBlock = v.ownBlock ∨ v'.ownBlock = some w.heap.size) → K (a.put o.dst v') w') : o.wp P a w K Q := by
  cases ao with
  | none =>
    obtain ⟨rfl, rfl⟩ := hnil rfl
    have hn : news = [] := by simpa using hl
    subst hn
    have hrun := run_append_owned_none (P := P) (w := w) base t o.type e i size ht hi v 0 [] hown
    refine wp_value (w' := w) (v := v) ?_ (h v w hown (grown_refl _ _) (fun e => e) (.inl rfl))
    simp [execOp, ho, resolve, invoke, builtin, hs, hx, hrun, Result.andThen]
  | some ad =>
    obtain ⟨v', w', hr, h2, h3, h4, h5⟩ := run_append_own_at (P := P) w base t o.type e i z size bytes ht hi hz hsize hby hzs hsz v 0 [] hown ad n c news hl (hnews ad rfl) h1 (by omega) (by simpa using hbytes) hbase
    refine wp_value (w' := w') (v := v') ?_ (h v' w' (by simpa using h2) h3 (fun e => (h4.1 e).1) h5)
    simp [execOp, ho, resolve, invoke, builtin, hs, hx, hr, Result.andThen]
end
theorem put_eval {a : Act} {d : Nat} {v : Value} (h : d < a.tmps.size) : (a.put (some d) v).eval (.tmp d) = v := by
  simp [Act.put, Act.eval, h]
theorem put_other {a : Act} {d k : Nat} {v : Value} (h : k ≠ d) : (a.put (some d) v).eval (.tmp k) = a.eval (.tmp k) :=
  Act.eval_put (fun d' hd he => by cases hd; cases he; exact h rfl)
theorem put_size {a : Act} {d : Option Nat} {v : Value} : (a.put d v).tmps.size = a.tmps.size := by
  cases d <;> simp [Act.put]
theorem put_defs {a : Act} {d : Option Nat} {v : Value} : (a.put d v).defers = a.defers := by
  cases d <;> rfl
theorem madeCells_get (zc : Array Value) (n i : Nat) (hi : i < n) : (madeCells zc n)[i]? = some (zc[i % zc.size]!) := by
  simp [madeCells, hi]
theorem World.rowIs_alloc' (w : World) (vs : Array Value) (t : TypeId) (n : Nat) (hn : vs.size = n) {f : Nat → Value} (hc : ∀ i, i < n → vs[i]? = some (f i)) : (w.alloc (.cells vs t)).rowIs w.heap.size t n f := by
  subst hn
  exact World.rowIs_alloc w vs t f hc
theorem rowIs_madeN (w : World) (zc : Array Value) (n : Nat) (t : TypeId) : (w.alloc (.cells (madeCells zc n) t)).rowIs w.heap.size t n (fun i => zc[i % zc.size]!) :=
  World.rowIs_alloc' w (madeCells zc n) t n (size_madeCells _ _) (fun i hi => madeCells_get zc n i hi)
theorem touch_setCells (b : Nat) : ∀ (vs : List Value) (o : Nat) (w : World), Touch w (w.setCells b o vs) (fun k => k = b)
  | [], _, w => Touch.refl w _
  | v :: r, o, w => by
    rw [World.setCells]
    exact (Touch.setCell (S := fun k => k = b) (Touch.refl w _) ⟨b, o, none⟩ (.inl rfl) v).trans (touch_setCells b r (o + 1) _)
namespace Beg
def mv (vw vh vn vs : Value) : Nat → Option (Nat × Value)
  | 0 => some (10, vs)
  | 2 => some (12, vw)
  | 4 => some (14, vh)
  | 5 => some (15, vn)
  | 7 => some (17, vn)
  | 9 => some (19, vn)
  | 11 => some (21, vn)
  | 13 => some (23, vn)
  | _ => none
def zTask : Array Value := #[.int .i64 0, .int .i64 0, .int .i64 0, .int .i64 0, .int .i64 0, .int .i64 0, .int .i64 0, .int .i64 0, .int .i64 0, .int .i64 0, .int .i64 0, .int .u64 0, .int .i64 0, .int .u64 0, .int .u64 0, .int .u64 0, .int .u64 0, .int .u64 0, .int .u64 0, .int .u64 0, .int .u64 0, .slice none 0 0, .bool false, .int .u64 0, .int .u64 0, .int .u64 0, .int .u64 0, .int .u64 0]
def zKept : Array Value := #[.int .u64 0, .int .u64 0, .int .u64 0, .int .u64 0]
def mkr (n : Nat) : Rl → Option (Nat × Nat × Row)
  | .tasks => some (6, 16, ⟨59, n * 28, fun i => zTask[i % zTask.size]!⟩)
  | .going => some (8, 18, ⟨4, n * 1, fun i => #[Value.bool false][i % #[Value.bool false].size]!⟩)
  | .run => some (10, 20, ⟨3, n * 1, fun i => #[Value.int .i64 0][i % #[Value.int .i64 0].size]!⟩)
  | .mem => some (12, 22, ⟨57, n * 4, fun i => zKept[i % zKept.size]!⟩)
  | .answers => some (14, 24, ⟨76, n * 1, fun i => #[Value.slice none 0 0][i % #[Value.slice none 0 0].size]!⟩)
  | _ => none
theorem mk_inj {n : Nat} {r r' : Rl} {k d k' d' : Nat} {x x' : Row} (h : mkr n r = some (k, d, x)) (h' : mkr n r' = some (k', d', x')) (hne : r' ≠ r) : k' ≠ k ∧ d' ≠ d := by
  cases r <;> cases r' <;> simp [mkr] at h h' hne <;> omega
theorem mk_words {n : Nat} {r : Rl} {y : Nat × Nat × Row} (h : mkr n r = some y) : r ≠ .words := by rintro rfl; cases h
theorem mk_steps {n : Nat} {r : Rl} {y : Nat × Nat × Row} (h : mkr n r = some y) : r ≠ .steps := by rintro rfl; cases h
theorem mk_arow {n h' : Nat} {r : Rl} {y : Nat × Nat × Row} (h : mkr n r = some y) : r ≠ .arow h' := by rintro rfl; cases h
theorem mk_key {n : Nat} {r : Rl} {k d : Nat} {x : Row} (h : mkr n r = some (k, d, x)) : (k = 6 ∧ d = 16) ∨ (k = 8 ∧ d = 18) ∨ (k = 10 ∧ d = 20) ∨ (k = 12 ∧ d = 22) ∨ (k = 14 ∧ d = 24) := by
  cases r <;> simp [mkr] at h <;> omega
theorem mv_key {vw vh vn vs v : Value} {k d : Nat} (h : mv vw vh vn vs k = some (d, v)) : (k = 0 ∧ d = 10) ∨ (k = 2 ∧ d = 12) ∨ (k = 4 ∧ d = 14) ∨ (k = 5 ∧ d = 15) ∨ (k = 7 ∧ d = 17) ∨ (k = 9 ∧ d = 19) ∨ (k = 11 ∧ d = 21) ∨ (k = 13 ∧ d = 23) := by
  unfold mv at h
  split at h <;> simp at h <;> omega
theorem mv_one {vw vh vn vs v v' : Value} {k k' d d' : Nat} (h : mv vw vh vn vs k = some (d, v)) (h' : mv vw vh vn vs k' = some (d', v')) (hne : k' ≠ k) : d' ≠ d := by
  have := mv_key h
  have := mv_key h'
  omega
def sl (b n : Nat) : Value := .slice (some ⟨b, 0, none⟩) n n
def cellsAt (sh : Shp) (vw vh : Value) (blk : Rl → Nat) (nh : Nat) : List Value := runCells sh vw vh (sl (blk .tasks) nh) (sl (blk .going) nh) (sl (blk .run) nh) (sl (blk .mem) nh) (.slice none 0 0) (sl (blk .answers) nh) (-1)
structure Wd (N : Nat) (L : Nat → Bool) (a : Act) (blk : Rl → Nat) (c : Rl → Option Row) (n : Nat) (f : Nat → Int) : Prop where
  none : L 1 = false → c .words = .none ∧ L 3 = false
  lit : L 1 = true → L 3 = false → a.eval (.tmp 11) = .slice (some ⟨blk .words, 0, .none⟩) 0 0 ∧ N ≤ blk .words ∧ ∃ F, c .words = some ⟨50, 0, F⟩
  row : L 3 = true → ∃ cap F, a.eval (.tmp 13) = .slice (some ⟨blk .words, 0, .none⟩) n cap ∧ c .words = some ⟨50, cap, F⟩ ∧ n ≤ cap ∧ cap ≤ maxLen ∧ ∀ i, i < n → F i = .int .u64 (f i)
structure In (w0 : World) (B : Nat) (sh : Shp) (vw vh : Value) (n nh : Nat) (f : Nat → Int) (L : Nat → Bool) (a : Act) (w : World) (blk : Rl → Nat) (c : Rl → Option Row) : Prop where
  sz : a.tmps.size = 26
  df : a.defers = []
  s1 : a.eval (.tmp 1) = vw
  s2 : a.eval (.tmp 2) = vh
  s3 : a.eval (.tmp 3) = .pointer (some ⟨B, 0, none⟩)
  s6 : a.eval (.tmp 6) = .pointer (some ⟨B + 1, 0, none⟩)
  s7 : a.eval (.tmp 7) = .int .i64 nh
  tch : Touch w0 w (fun k => k = B + 1)
  th : w.there (B + 1) 0 15
  mvs : ∀ k d v, mv vw vh (.int .i64 nh) sh.val k = some (d, v) → L k = true → a.eval (.tmp d) = v
  has : Has w (B + 2) blk c
  mks : ∀ r k d x, mkr nh r = some (k, d, x) → (L k = true → a.eval (.tmp d) = sl (blk r) nh ∧ c r = some x) ∧ (L k = false → c r = none)
  rest : c .steps = none ∧ ∀ h, c (.arow h) = none
  wd : Wd w0.heap.size L a blk c n f
  bld : L 15 = true → (L 3 = true ∧ ∀ r k d x, mkr nh r = some (k, d, x) → L k = true) ∧ a.eval (.tmp 25) = .agg (cellsAt sh (a.eval (.tmp 13)) vh blk nh).toArray
  fin : L 16 = true → L 15 = true ∧ w.rangeAt (B + 1) 0 (cellsAt sh (a.eval (.tmp 13)) vh blk nh)
variable {w0 w : World} {B : Nat} {sh : Shp} {vw vh : Value} {n nh : Nat} {f : Nat → Int} {L : Nat → Bool} {a : Act} {blk : Rl → Nat} {c : Rl → Option Row}
theorem In.mvStep (h : In w0 B sh vw vh n nh f L a w blk c) {k d : Nat} {v : Value} (hk : mv vw vh (.int .i64 nh) sh.val k = some (d, v)) : In w0 B sh vw vh n nh f (upd L k true) (a.put (some d) v) w blk c := by
  have hkk := mv_key hk
  have e : ∀ j, j ≠ d → (a.put (some d) v).eval (.tmp j) = a.eval (.tmp j) := fun j hj => put_other hj
  have u : ∀ j, j ≠ k → upd L k true j = L j := fun j hj => upd_other _ _ hj
  have u1 := u 1 (by omega)
  have u3 := u 3 (by omega)
  have u15 := u 15 (by omega)
  have u16 := u 16 (by omega)
  refine ⟨by rw [put_size]; exact h.sz, by rw [put_defs]; exact h.df, by rw [e _ (by omega)]; exact h.s1, by rw [e _ (by omega)]; exact h.s2, by rw [e _ (by omega)]; exact h.s3, by rw [e _ (by omega)]; exact h.s6, by rw [e _ (by omega)]; exact h.s7,
    h.tch, h.th, fun k' d' v' hk' hL => ?_, h.has, fun r k' d' x hr => ?_, h.rest, ⟨?_, ?_, ?_⟩, ?_, ?_⟩
  · by_cases hkk' : k' = k
    · subst hkk'
      rw [hk] at hk'
      cases hk'
      exact put_eval (by have := h.sz; omega)
    · rw [u k' hkk'] at hL
      rw [e _ (mv_one hk hk' hkk')]
      exact h.mvs k' d' v' hk' hL
  · have hrk := mk_key hr
    rw [u k' (by omega), e d' (by omega)]
    exact h.mks r k' d' x hr
  · rw [u1, u3]; exact h.wd.none
  · rw [u1, u3, e _ (by omega)]; exact h.wd.lit
  · rw [u3, e _ (by omega)]; exact h.wd.row
  · rw [u15, u3, e _ (by omega), e _ (by omega)]
    intro hL
    obtain ⟨⟨h1, h2⟩, h3⟩ := h.bld hL
    exact ⟨⟨h1, fun r k' d' x hr => by rw [u k' (by have := mk_key hr; omega)]; exact h2 r k' d' x hr⟩, h3⟩
  · rw [u15, u16, e _ (by omega)]; exact h.fin
theorem In.mkStep (h : In w0 B sh vw vh n nh f L a w blk c) (hB : B + 2 ≤ w0.heap.size) {r : Rl} {k d : Nat} {x : Row} (hk : mkr nh r = some (k, d, x)) (hL : L k = false) {w' : World} (hw : w'.rowIs w.heap.size x.t x.n x.f) (ht : Touch w w' (fun _ => False)) :
    In w0 B sh vw vh n nh f (upd L k true) (a.put (some d) (sl w.heap.size nh)) w' (upd blk r w.heap.size) (upd c r (some x)) := by
  have hkk := mk_key hk
  have e : ∀ j, j ≠ d → (a.put (some d) (sl w.heap.size nh)).eval (.tmp j) = a.eval (.tmp j) := fun j hj => put_other hj
  have u : ∀ j, j ≠ k → upd L k true j = L j := fun j hj => upd_other _ _ hj
  have u1 := u 1 (by omega)
  have u3 := u 3 (by omega)
  have u15 := u 15 (by omega)
  have u16 := u 16 (by omega)
  have hsz := h.tch.size
  have n15 : ¬ L 15 = true := fun h15 => by rw [((h.bld h15).1.2 r k d x hk)] at hL; cases hL
  have hrw := mk_words hk
  refine ⟨by rw [put_size]; exact h.sz, by rw [put_defs]; exact h.df, by rw [e _ (by omega)]; exact h.s1, by rw [e _ (by omega)]; exact h.s2, by rw [e _ (by omega)]; exact h.s3, by rw [e _ (by omega)]; exact h.s6, by rw [e _ (by omega)]; exact h.s7,
    h.tch.trans' ht (fun _ _ h => h.elim), ?_, fun k' d' v' hk' hL' => ?_, h.has.add r w.heap.size x (by omega) (Nat.le_refl _) ht (fun _ _ _ _ => id) hw, fun r' k' d' x' hr' => ?_, ⟨by rw [upd_other _ _ (mk_steps hk).symm]; exact h.rest.1, fun hh => by rw [upd_other _ _ (mk_arow hk).symm]; exact h.rest.2 hh⟩, ⟨?_, ?_, ?_⟩, ?_, ?_⟩
  · intro j hj
    obtain ⟨h1, h2⟩ := h.th j hj
    obtain ⟨y, hy⟩ := Option.isSome_iff_exists.1 h1
    have hlt := World.block_lt_of_cell? w _ hy
    have hbk := ht.block (B + 1) hlt id
    exact ⟨by rw [World.cell?_of_block (a := ⟨B + 1, 0 + j, none⟩) hbk]; exact h1, by rw [World.frozen?_of_block (a := ⟨B + 1, 0 + j, none⟩) hbk]; exact h2⟩
  · have hmk := mv_key hk'
    rw [u k' (by omega)] at hL'
    rw [e d' (by omega)]
    exact h.mvs k' d' v' hk' hL'
  · by_cases hrr : r' = r
    · subst hrr
      rw [hk] at hr'
      cases hr'
      exact ⟨fun _ => ⟨by rw [put_eval (by have := h.sz; omega), upd_same], by rw [upd_same]⟩, fun hf => by rw [upd_same] at hf; cases hf⟩
    · obtain ⟨hk2, hd2⟩ := mk_inj hk hr' hrr
      rw [u k' hk2, e d' hd2, upd_other _ _ hrr, upd_other _ _ hrr]
      exact h.mks r' k' d' x' hr'
  · rw [u1, u3, upd_other _ _ hrw.symm]; exact h.wd.none
  · rw [u1, u3, e _ (by omega), upd_other _ _ hrw.symm, upd_other _ _ hrw.symm]; exact h.wd.lit
  · rw [u3, e _ (by omega), upd_other _ _ hrw.symm, upd_other _ _ hrw.symm]; exact h.wd.row
  · rw [u15]; intro hc; exact absurd hc n15
  · rw [u16]; intro hc; exact absurd (h.fin hc).1 n15
theorem In.litStep (h : In w0 B sh vw vh n nh f L a w blk c) (hB : B + 2 ≤ w0.heap.size) (hL : L 1 = false) :
    In w0 B sh vw vh n nh f (upd L 1 true) (a.put (some 11) (.slice (some ⟨w.heap.size, 0, none⟩) 0 0)) (w.alloc (.cells #[] 50)) (upd blk .words w.heap.size) (upd c .words (some ⟨50, 0, fun _ => default⟩)) := by
  have e : ∀ j : Nat, j ≠ 11 → (a.put (some 11) (.slice (some ⟨w.heap.size, 0, none⟩) 0 0)).eval (.tmp j) = a.eval (.tmp j) := fun j hj => put_other hj
  have u : ∀ j, j ≠ 1 → upd L 1 true j = L j := fun j hj => upd_other _ _ hj
  have hsz := h.tch.size
  obtain ⟨hcw, h3⟩ := h.wd.none hL
  have n15 : ¬ L 15 = true := fun h15 => by rw [(h.bld h15).1.1] at h3; cases h3
  have ht : Touch w (w.alloc (.cells #[] 50)) (fun _ => False) := (Touch.refl w _).alloc _
  refine ⟨by rw [put_size]; exact h.sz, by rw [put_defs]; exact h.df, by rw [e _ (by omega)]; exact h.s1, by rw [e _ (by omega)]; exact h.s2, by rw [e _ (by omega)]; exact h.s3, by rw [e _ (by omega)]; exact h.s6, by rw [e _ (by omega)]; exact h.s7,
    h.tch.alloc _, World.there_alloc h.th _, fun k' d' v' hk' hL' => ?_, h.has.add .words w.heap.size ⟨50, 0, fun _ => default⟩ (by omega) (Nat.le_refl _) ht (fun _ _ _ _ => id) (World.rowIs_alloc' w #[] _ 0 rfl (fun i hi => by omega)), fun r' k' d' x' hr' => ?_, ⟨by rw [upd_other _ _ (by simp)]; exact h.rest.1, fun hh => by rw [upd_other _ _ (by simp)]; exact h.rest.2 hh⟩, ⟨?_, ?_, ?_⟩, ?_, ?_⟩
  · have hmk := mv_key hk'
    rw [u k' (by omega)] at hL'
    rw [e d' (by omega)]
    exact h.mvs k' d' v' hk' hL'
  · have hmk := mk_key hr'
    rw [u k' (by omega), e d' (by omega), upd_other _ _ (mk_words hr'), upd_other _ _ (mk_words hr')]
    exact h.mks r' k' d' x' hr'
  · intro hc; rw [upd_same] at hc; cases hc
  · intro _ _
    exact ⟨by rw [put_eval (by have := h.sz; omega), upd_same], by rw [upd_same]; exact hsz, _, upd_same _ _ _⟩
  · rw [u 3 (by omega)]; intro hc; rw [h3] at hc; cases hc
  · rw [u 15 (by omega)]; intro hc; exact absurd hc n15
  · rw [u 16 (by omega)]; intro hc; exact absurd (h.fin hc).1 n15
theorem In.appStep (h : In w0 B sh vw vh n nh f L a w blk c) (hB : B + 2 ≤ w0.heap.size) (hL1 : L 1 = true) (hL : L 3 = false) (hf : ∀ i, i < n → 0 ≤ f i ∧ f i ≤ 18446744073709551615) {v' : Value} {w' : World}
    (hown : w'.ownsRow (B + 2) 50 1 v' n (wordCells n f)) (hg : w.grownBy w' (some (blk .words))) (hnn : ¬ v' = .slice none 0 0) (hat : v'.ownBlock = some (blk .words) ∨ v'.ownBlock = some w.heap.size) :
    ∃ g cap F, In w0 B sh vw vh n nh f (upd L 3 true) (a.put (some 13) v') w' (upd blk .words g) (upd c .words (some ⟨50, cap, F⟩)) := by
  obtain ⟨g, cap, rfl, ⟨hnc, hcm, ⟨F, hrow, hF⟩, _⟩, hbg⟩ := owned_row hown hnn hf
  obtain ⟨e11, hnw, F0, ec⟩ := h.wd.lit hL1 hL
  refine ⟨g, cap, F, ?_⟩
  have e : ∀ j : Nat, j ≠ 13 → (a.put (some 13) (.slice (some ⟨g, 0, none⟩) n cap)).eval (.tmp j) = a.eval (.tmp j) := fun j hj => put_other hj
  have u : ∀ j, j ≠ 3 → upd L 3 true j = L j := fun j hj => upd_other _ _ hj
  have hsz := h.tch.size
  have n15 : ¬ L 15 = true := fun h15 => by rw [(h.bld h15).1.1] at hL; cases hL
  have hbw := h.has.new _ _ ec
  have hlw := h.has.lt ec
  simp only [Value.ownBlock, Option.some.injEq] at hat
  refine ⟨by rw [put_size]; exact h.sz, by rw [put_defs]; exact h.df, by rw [e _ (by omega)]; exact h.s1, by rw [e _ (by omega)]; exact h.s2, by rw [e _ (by omega)]; exact h.s3, by rw [e _ (by omega)]; exact h.s6, by rw [e _ (by omega)]; exact h.s7,
    ?_, ?_, fun k' d' v' hk' hL' => ?_, h.has.move .words g ⟨50, cap, F⟩ (Touch.of_grown hg) (fun r' x' hne e' he => h.has.ne e' ec hne (by simpa using he)) (fun r' x' hne e' he => ?_) hrow hbg, fun r' k' d' x' hr' => ?_, ⟨by rw [upd_other _ _ (by simp)]; exact h.rest.1, fun hh => by rw [upd_other _ _ (by simp)]; exact h.rest.2 hh⟩, ⟨?_, ?_, ?_⟩, ?_, ?_⟩
  · refine ⟨hg.os.trans h.tch.os, hg.tape.trans h.tch.tape, hg.output.trans h.tch.output, Nat.le_trans h.tch.size hg.size, fun k hk hn => ?_⟩
    by_cases hkw : k = blk .words
    · -- the words' block is not one of w0's that may be named: it was made since, or is the row itself
      subst hkw
      exact absurd hk (by omega)
    · exact (hg.block k (by omega) (by simpa using hkw)).trans (h.tch.block k hk hn)
  · intro j hj
    obtain ⟨h1, h2⟩ := h.th j hj
    obtain ⟨y, hy⟩ := Option.isSome_iff_exists.1 h1
    have hlt := World.block_lt_of_cell? w _ hy
    have hbk := hg.block (B + 1) hlt (by simp; omega)
    exact ⟨by rw [World.cell?_of_block (a := ⟨B + 1, 0 + j, none⟩) hbk]; exact h1, by rw [World.frozen?_of_block (a := ⟨B + 1, 0 + j, none⟩) hbk]; exact h2⟩
  · have hmk := mv_key hk'
    rw [u k' (by omega)] at hL'
    rw [e d' (by omega)]
    exact h.mvs k' d' v' hk' hL'
  · rcases hat with hat | hat
    · exact h.has.ne e' ec hne (by omega)
    · have := h.has.lt e'; omega
  · have hmk := mk_key hr'
    rw [u k' (by omega), e d' (by omega), upd_other _ _ (mk_words hr'), upd_other _ _ (mk_words hr')]
    exact h.mks r' k' d' x' hr'
  · rw [u 1 (by omega), hL1]; intro hc; cases hc
  · intro _ hc; rw [upd_same] at hc; cases hc
  · intro _
    exact ⟨cap, F, by rw [put_eval (by have := h.sz; omega), upd_same], upd_same _ _ _, hnc, hcm, hF⟩
  · rw [u 15 (by omega)]; intro hc; exact absurd hc n15
  · rw [u 16 (by omega)]; intro hc; exact absurd (h.fin hc).1 n15
theorem In.bldStep (h : In w0 B sh vw vh n nh f L a w blk c) (hL3 : L 3 = true) (hm : ∀ r k d x, mkr nh r = some (k, d, x) → L k = true) (h16 : L 15 = false) :
    In w0 B sh vw vh n nh f (upd L 15 true) (a.put (some 25) (.agg (cellsAt sh (a.eval (.tmp 13)) vh blk nh).toArray)) w blk c := by
  have e : ∀ j : Nat, j ≠ 25 → (a.put (some 25) (.agg (cellsAt sh (a.eval (.tmp 13)) vh blk nh).toArray)).eval (.tmp j) = a.eval (.tmp j) := fun j hj => put_other hj
  have u : ∀ j, j ≠ 15 → upd L 15 true j = L j := fun j hj => upd_other _ _ hj
  refine ⟨by rw [put_size]; exact h.sz, by rw [put_defs]; exact h.df, by rw [e _ (by omega)]; exact h.s1, by rw [e _ (by omega)]; exact h.s2, by rw [e _ (by omega)]; exact h.s3, by rw [e _ (by omega)]; exact h.s6, by rw [e _ (by omega)]; exact h.s7,
    h.tch, h.th, fun k' d' v' hk' hL' => ?_, h.has, fun r' k' d' x' hr' => ?_, h.rest, ⟨?_, ?_, ?_⟩, ?_, ?_⟩
  · have hmk := mv_key hk'
    rw [u k' (by omega)] at hL'
    rw [e d' (by omega)]
    exact h.mvs k' d' v' hk' hL'
  · have hmk := mk_key hr'
    rw [u k' (by omega), e d' (by omega)]
    exact h.mks r' k' d' x' hr'
  · rw [u 1 (by omega), u 3 (by omega)]; exact h.wd.none
  · rw [u 1 (by omega), u 3 (by omega), e _ (by omega)]; exact h.wd.lit
  · rw [u 3 (by omega), e _ (by omega)]; exact h.wd.row
  · intro _
    rw [u 3 (by omega), e 13 (by omega)]
    exact ⟨⟨hL3, fun r k d x hr => by rw [u k (by have := mk_key hr; omega)]; exact hm r k d x hr⟩, put_eval (by have := h.sz; omega)⟩
  · rw [u 16 (by omega)]; intro hc; rw [(h.fin hc).1] at h16; cases h16
theorem In.stoStep (h : In w0 B sh vw vh n nh f L a w blk c) (h15 : L 15 = true) :
    In w0 B sh vw vh n nh f (upd L 16 true) (a.put none undef) (w.setCells (B + 1) 0 (cellsAt sh (a.eval (.tmp 13)) vh blk nh)) blk c := by
  have u : ∀ j, j ≠ 16 → upd L 16 true j = L j := fun j hj => upd_other _ _ hj
  have hp : a.put none undef = a := rfl
  rw [hp]
  have hlen : (cellsAt sh (a.eval (.tmp 13)) vh blk nh).length = 15 := rfl
  have ht : Touch w (w.setCells (B + 1) 0 (cellsAt sh (a.eval (.tmp 13)) vh blk nh)) (fun k => k = B + 1) := touch_setCells _ _ _ _
  refine ⟨h.sz, h.df, h.s1, h.s2, h.s3, h.s6, h.s7, h.tch.trans' ht (fun _ _ h => h), World.there_setCells h.th _ _ _, fun k' d' v' hk' hL' => ?_, h.has.touch ht (fun r x e he => by have := h.has.new r x e; omega), fun r' k' d' x' hr' => ?_, h.rest, ⟨?_, ?_, ?_⟩, ?_, ?_⟩
  · rw [u k' (by have := mv_key hk'; omega)] at hL'
    exact h.mvs k' d' v' hk' hL'
  · rw [u k' (by have := mk_key hr'; omega)]
    exact h.mks r' k' d' x' hr'
  · rw [u 1 (by omega), u 3 (by omega)]; exact h.wd.none
  · rw [u 1 (by omega), u 3 (by omega)]; exact h.wd.lit
  · rw [u 3 (by omega)]; exact h.wd.row
  · rw [u 15 (by omega), u 3 (by omega)]
    intro hc
    obtain ⟨⟨h1, h2⟩, h3⟩ := h.bld hc
    exact ⟨⟨h1, fun r k d x hr => by rw [u k (by have := mk_key hr; omega)]; exact h2 r k d x hr⟩, h3⟩
  · intro _
    exact ⟨by rw [u 15 (by omega)]; exact h15, World.rangeAt_setCells_same _ _ _ _ (by rw [hlen]; exact h.th)⟩
end Beg
end
section
theorem wrapU (n : Int) : IntKind.u64.wrap n = n % 18446744073709551616 := IntKind.wrap_u64 n
theorem and_low (x : Int) (h0 : 0 ≤ x) (h1 : x < 18446744073709551616) : bits .and .u64 x 4294967295 = x % 4294967296 := by
  rw [u64_and x 4294967295 h0 h1 (by omega) (by omega)]
  have e : x.toNat &&& (4294967295 : Int).toNat = x.toNat % 4294967296 := Nat.and_two_pow_sub_one_eq_mod x.toNat 32
  rw [e]; omega
theorem or_join (i : Nat) (a b : Int) (ha0 : 0 ≤ a) (ha1 : a.toNat < 2 ^ i) (ha2 : a < 18446744073709551616) (hb0 : 0 ≤ b) (hb1 : b.toNat % 2 ^ i = 0) (hb2 : b < 18446744073709551616) : bits .or .u64 a b = a + b := by
  rw [u64_or a b ha0 ha2 hb0 hb2, Nat.or_comm, nat_join i b.toNat a.toNat hb1 ha1]
  omega
theorem or32 (a b : Int) (ha0 : 0 ≤ a) (ha1 : a < 4294967296) (hb0 : 0 ≤ b) (hb1 : b % 4294967296 = 0) (hb2 : b < 18446744073709551616) : bits .or .u64 a b = a + b :=
  or_join 32 a b ha0 (by omega) (by omega) hb0 (by omega) hb2
theorem or8 (a b : Int) (ha0 : 0 ≤ a) (ha1 : a < 256) (hb0 : 0 ≤ b) (hb1 : b % 256 = 0) (hb2 : b < 18446744073709551616) : bits .or .u64 a b = a + b :=
  or_join 8 a b ha0 (by omega) (by omega) hb0 (by omega) hb2
theorem or3 (a b : Int) (ha0 : 0 ≤ a) (ha1 : a < 8) (hb0 : 0 ≤ b) (hb1 : b % 8 = 0) (hb2 : b < 18446744073709551616) : bits .or .u64 a b = a + b :=
  or_join 3 a b ha0 (by omega) (by omega) hb0 (by omega) hb2
theorem or2 (a b : Int) (ha0 : 0 ≤ a) (ha1 : a < 4) (hb0 : 0 ≤ b) (hb1 : b % 4 = 0) (hb2 : b < 18446744073709551616) : bits .or .u64 a b = a + b :=
  or_join 2 a b ha0 (by omega) (by omega) hb0 (by omega) hb2
theorem or1 (a b : Int) (ha0 : 0 ≤ a) (ha1 : a < 2) (hb0 : 0 ≤ b) (hb1 : b % 2 = 0) (hb2 : b < 18446744073709551616) : bits .or .u64 a b = a + b :=
  or_join 1 a b ha0 (by omega) (by omega) hb0 (by omega) hb2
def hd (i g : Int) : Int := i % 4294967296 + g % 4294967296 * 4294967296
theorem hd_lo (i g : Int) : 0 ≤ hd i g := by unfold hd; omega
theorem hd_hi (i g : Int) : hd i g < 18446744073709551616 := by unfold hd; omega
theorem join_eq (i g : Int) : bits .or .u64 (bits .and .u64 (IntKind.u64.wrap i) 4294967295) (IntKind.u64.wrap (g * 4294967296)) = hd i g := by
  rw [wrapU, wrapU, and_low _ (by omega) (by omega), or32 _ _ (by omega) (by omega) (by omega) (by omega) (by omega)]
  unfold hd; omega
def bit (b : Bool) (v : Int) : Int := if b then v else 0
theorem ret_int {k : IntKind} {a b : Int} (h : a = b) : Ending.returned (.int k a) = .returned (.int k b) := by rw [h]
theorem ret_bool {a b : Bool} (h : a = b) : Ending.returned (.bool a) = .returned (.bool b) := by rw [h]
theorem join_any (i g : Int) (w : World) :
    Calls Tryz.prog 73 #[.int .i64 i, .int .u64 g] w fun e w' => e = .returned (.int .u64 (hd i g)) ∧ w' = w := by
  go_enter Tryz.func73, Tryz.ntmps73
  go_wp2
  go_ret
  exact ⟨ret_int (join_eq i g), rfl⟩
theorem tagged_any (i g : Int) (w : World) :
    Calls Tryz.prog 43 #[.int .i64 i, .int .u64 g] w fun e w' => e = .returned (.int .u64 (hd i g)) ∧ w' = w := by
  go_enter Tryz.func43, Tryz.ntmps43
  go_wp2_with (go_at_call 73; refine (join_any _ _ _).mono ?_; rintro e w' ⟨rfl, rfl⟩)
  go_ret
  exact ⟨rfl, rfl⟩
theorem wrap64_low (h : Int) (h0 : 0 ≤ h) (h1 : h < 18446744073709551616) : wrap64 (bits .and .u64 h 4294967295) = h % 4294967296 := by
  rw [and_low h h0 h1]; unfold wrap64; omega
theorem index_any (h : Int) (h0 : 0 ≤ h) (h1 : h < 18446744073709551616) (w : World) :
    Calls Tryz.prog 113 #[.int .u64 h] w fun e w' => e = .returned (.int .i64 (h % 4294967296)) ∧ w' = w := by
  go_enter Tryz.func113, Tryz.ntmps113
  go_wp2
  go_ret
  exact ⟨ret_int (wrap64_low h h0 h1), rfl⟩
theorem gen_any (h : Int) (h0 : 0 ≤ h) (h1 : h < 18446744073709551616) (w : World) :
    Calls Tryz.prog 99 #[.int .u64 h] w fun e w' => e = .returned (.int .u64 (h / 4294967296)) ∧ w' = w := by
  go_enter Tryz.func99, Tryz.ntmps99
  go_wp2
  go_ret
  exact ⟨rfl, rfl⟩
theorem isColour_any (c : Int) (w : World) :
    Calls Tryz.prog 134 #[.int .i64 c] w fun e w' => e = .returned (.bool (c == 0 || c == 1)) ∧ w' = w := by
  by_cases hc : c = 0
  · subst hc
    go_enter Tryz.func134, Tryz.ntmps134
    go_wp2
    go_ret
    exact ⟨rfl, rfl⟩
  · have hb : (c == 0) = false := beq_eq_false_iff_ne.2 hc
    go_enter Tryz.func134, Tryz.ntmps134
    go_wp2
    go_ret
    exact ⟨ret_bool (by simp [hb]), rfl⟩
theorem bitIf_any (b : Bool) (v : Int) (w : World) :
    Calls Tryz.prog 135 #[.bool b, .int .u64 v] w fun e w' => e = .returned (.int .u64 (bit b v)) ∧ w' = w := by
  cases b
  · go_enter Tryz.func135, Tryz.ntmps135
    go_wp2
    go_ret
    exact ⟨rfl, rfl⟩
  · go_enter Tryz.func135, Tryz.ntmps135
    go_wp2
    go_ret
    exact ⟨rfl, rfl⟩
def hasB (x v : Int) : Bool := x / v % 2 == 1
def numB (x v : Int) : Int := x / v % 2
theorem ret_two {k l : IntKind} {a b c d : Int} (h : a = b) (h' : c = d) : Ending.returned (.tuple #[.int k a, .int l c]) = .returned (.tuple #[.int k b, .int l d]) := by rw [h, h']
def packOk (age gen c : Int) : Prop := (c = 0 ∨ c = 1) ∧ 0 ≤ age ∧ age ≤ 255 ∧ gen ≤ 4294967295
def ownB (live : Bool) (c : Int) : Bool := if live then c == 1 else !(c == 1)
def packW (used own final taken : Bool) (age gen : Int) : Int := bit used 1 + bit own 2 + bit final 4 + bit taken 8 + age * 256 + gen * 4294967296
theorem or_bits (u o f t : Bool) : bits .or .u64 (bits .or .u64 (bits .or .u64 (bit u 1) (bit o 2)) (bit f 4)) (bit t 8) = bit u 1 + bit o 2 + bit f 4 + bit t 8 := by
  rw [or1 (bit u 1) (bit o 2) (by cases u <;> simp [bit]) (by cases u <;> simp [bit]) (by cases o <;> simp [bit]) (by cases o <;> simp [bit]) (by cases o <;> simp [bit])]
  rw [or2 _ (bit f 4) (by cases u <;> cases o <;> simp [bit]) (by cases u <;> cases o <;> simp [bit]) (by cases f <;> simp [bit]) (by cases f <;> simp [bit]) (by cases f <;> simp [bit])]
  rw [or3 _ (bit t 8) (by cases u <;> cases o <;> cases f <;> simp [bit]) (by cases u <;> cases o <;> cases f <;> simp [bit]) (by cases t <;> simp [bit]) (by cases t <;> simp [bit]) (by cases t <;> simp [bit])]
theorem bits_lt (u o f t : Bool) : 0 ≤ bit u 1 + bit o 2 + bit f 4 + bit t 8 ∧ bit u 1 + bit o 2 + bit f 4 + bit t 8 < 16 := by
  cases u <;> cases o <;> cases f <;> cases t <;> simp [bit]
theorem pack_eq (u o f t : Bool) (age gen : Int) (ha0 : 0 ≤ age) (ha1 : age ≤ 255) (hg0 : 0 ≤ gen) (hg1 : gen ≤ 4294967295) :
    bits .or .u64 (bits .or .u64 (bits .or .u64 (bits .or .u64 (bits .or .u64 (bit u 1) (bit o 2)) (bit f 4)) (bit t 8)) (age * 256)) (gen * 4294967296) = packW u o f t age gen := by
  have hb := bits_lt u o f t
  rw [or_bits, or8 _ (age * 256) (by omega) (by omega) (by omega) (by omega) (by omega), or32 _ (gen * 4294967296) (by omega) (by omega) (by omega) (by omega) (by omega)]
  rfl
theorem below_box (w : World) (o : Obj) (n : Nat) : Below w.heap.size w ((w.alloc o).drewN n) := below_drewN ((Below.refl _ _).alloc (Nat.le_refl _) _) n
def packB (age gen c : Int) : Bool := (c == 0 || c == 1) && decide (0 ≤ age) && decide (age ≤ 255) && decide (gen ≤ 4294967295)
def packV (used live final taken : Bool) (age gen c : Int) : Int := if packB age gen c then packW used (ownB live c) final taken age gen else 0
def packE (age gen c : Int) : Int := if packB age gen c then 0 else 10
def momB (p c r : Int) : Bool := decide (0 ≤ p) && decide (p ≤ 4) && (c == 0 || c == 1) && decide (r < 72057594037927936)
def momV (p c r : Int) : Int := if momB p c r then p + c * 8 + r * 256 else 0
def momE (p c r : Int) : Int := if momB p c r then 0 else 10
def obj (used live final taken : Bool) (age gen link next : Int) : Value :=
  .agg #[.bool used, .bool live, .bool final, .bool taken, .int .i64 age, .int .u64 gen, .int .u64 link, .int .u64 next, .slice none 0 0]
end
section
theorem bump_any (t i : Int) (h0 : 0 ≤ t) (h1 : t < 18446744073709551616) (w : World) :
    Calls Tryz.prog 140 #[.int .u64 t, .int .i64 i] w fun e w' => e = .returned (.int .u64 (hd i (t / 4294967296 + 1))) ∧ w' = w := by
  go_enter Tryz.func140, Tryz.ntmps140
  go_wp2_with (first | (go_at_call 99; refine (gen_any _ h0 h1 _).mono ?_; rintro e w' ⟨rfl, rfl⟩) | (go_at_call 43; refine (tagged_any _ _ _).mono ?_; rintro e w' ⟨rfl, rfl⟩))
  go_ret
  exact ⟨rfl, rfl⟩
def whiteB (x g c : Int) : Bool := hasB x 1 && (x / 4294967296 == g) && (numB x 2 != c)
end
section
namespace Hp
def idx (x : Int) : Int := x % 4294967296
def bmp (t i : Int) : Int := hd i (t / 4294967296 + 1)
theorem idx_lo (x : Int) : 0 ≤ idx x := by unfold idx; omega
theorem idx_hi (x : Int) : idx x < 4294967296 := by unfold idx; omega
theorem bmp_lo (t i : Int) : 0 ≤ bmp t i := hd_lo _ _
theorem bmp_hi (t i : Int) : bmp t i ≤ 18446744073709551615 := by have := hd_hi i (t / 4294967296 + 1); unfold bmp; omega
def there (sh : Shp) (i : Int) : Prop := 1 ≤ i ∧ i ≤ sh.a
instance (sh : Shp) (i : Int) : Decidable (there sh i) := by unfold there; infer_instance
def headAt (sh : Shp) (i : Int) : Int := if there sh i then 8 + sh.c + sh.c * sh.d + sh.e + (i - 1) * (3 + sh.b) else -1
def linkAt (sh : Shp) (i : Int) : Int := if there sh i then 8 + sh.c + sh.c * sh.d + sh.e + (i - 1) * (3 + sh.b) + 1 else -1
def slotIn (sh : Shp) (i s : Int) : Prop := there sh i ∧ 0 ≤ s ∧ s < sh.b
instance (sh : Shp) (i s : Int) : Decidable (slotIn sh i s) := by unfold slotIn; infer_instance
def slotAt (sh : Shp) (i s : Int) : Int := if slotIn sh i s then 8 + sh.c + sh.c * sh.d + sh.e + (i - 1) * (3 + sh.b) + 3 + s else -1
theorem had_bounds {n : Nat} {f : Nat → Int} (hf : ∀ i, i < n → 0 ≤ f i ∧ f i ≤ 18446744073709551615) (q : Stp) : 0 ≤ (stepOf n f q).had ∧ (stepOf n f q).had ≤ 18446744073709551615 := by
  unfold stepOf
  split
  · rename_i h
    exact hf _ (by omega)
  · exact ⟨Int.le_refl 0, by show (0 : Int) ≤ 18446744073709551615; decide⟩
end Hp
end
end Go.Proofs.YtppgbndoijppnaaGreat
