/-
  Lemmas: KGen, KeepS, KeepT, RH, KeepR.
-/
import Derived.Test.YtdflicgjkleonaaTp05
import Derived.Test.YtdflicgjkleonaaTp08
import Derived.Test.YtdflicgjkleonaaTp18
import Derived.Test.YtdflicgjkleonaaTp19
set_option linter.unusedVariables false
set_option linter.unusedSimpArgs false
set_option linter.unnecessarySimpa false
set_option maxRecDepth 20000
namespace Go.Proofs.Ytdflicgjkleonaa
open Go.RowKit
namespace KV
section
variable {w : World} {ao : Option Addr} {cap n : Nat} {s : Nat → Int}
def numCells (n : Nat) (s : Nat → Int) : List Value := (List.range n).map (fun i => Value.int .i64 (s i))
theorem numCells_one (n : Nat) (s : Nat → Int) : ∀ u ∈ numCells n s, u.oneCell' = true := by
  intro u hu
  simp only [numCells, List.mem_map] at hu
  obtain ⟨i, _, rfl⟩ := hu
  rfl
theorem info3e : ∃ i, Try.prog.info? 3 = some i ∧ i.zero = some (.int .i64 0) ∧ i.size = 1 ∧ i.bytes = 8 := by
  have h : (Try.prog.info? 3).map (fun i => (i.zero, i.size, i.bytes)) = some (some (.int .i64 0), 1, 8) := by kernel_rfl
  obtain ⟨i, h1, h2⟩ := Option.map_eq_some_iff.1 h
  injection h2 with h2 h3
  injection h3 with h3 h4
  exact ⟨i, h1, h2, h3, h4⟩
theorem seesI_news {B : Nat} (h : SeesI w B ao n s) : ∀ ad, ao = some ad → ∀ j u, (numCells n s)[j]? = some u → w.cell? (ad.add j) = some u := by
  intro ad hao j u hu
  have hj : j < n := by have := (List.getElem?_eq_some_iff.1 hu).1; simpa [numCells] using this
  obtain ⟨b, off, he, hbl, hcc⟩ := h j hj
  rw [hao] at he
  cases he
  have : u = .int .i64 (s j) := by simp [numCells, hj] at hu; exact hu.symm
  subst this
  rw [Go.WideShapes.add_plain]
  exact hcc
theorem seesI_alloc (h : SeesI w w.heap.size ao n s) (o : Obj) : SeesI (w.alloc o) w.heap.size ao n s := h.below ((Below.refl _ w).alloc (Nat.le_refl _) o) (Nat.le_refl _)
theorem owned_some {base n size : Nat} {e : TypeId} {v : Value} {xs : List Value} (h : w.ownsRow base e size v n xs) (hv : ¬ v = .slice none 0 0) : ∃ g cap, v = .slice (some ⟨g, 0, none⟩) n cap ∧ base ≤ g ∧ n ≤ cap := by
  obtain ⟨hl, ⟨rfl, _⟩ | ⟨g, cap, cur, rfl, hb, hg, hc, hm, hsz, ht⟩⟩ := h
  · exact absurd rfl hv
  · exact ⟨g, cap, rfl, hb, hc⟩
end
def Jb.cells (j : Jb) : List Value := [.int .i64 j.kind, .int .i64 j.a, .int .i64 j.b, .int .i64 j.c, .int .u64 j.h]
def jobCells (j : Nat → Jb) : Nat → List Value
  | 0 => []
  | k + 1 => jobCells j k ++ Jb.cells (j k)
theorem jobCells_length (j : Nat → Jb) (k : Nat) : (jobCells j k).length = k * 5 := by
  induction k with
  | zero => rfl
  | succ k ih => simp [jobCells, ih, Jb.cells]; omega
theorem jobCells_get (j : Nat → Jb) : ∀ (k i q : Nat), i < k → q < 5 → (jobCells j k)[i * 5 + q]? = some (Jb.cell (j i) q)
  | 0, i, q, hi, _ => absurd hi (Nat.not_lt_zero _)
  | k + 1, i, q, hi, hq => by
    have hl := jobCells_length j k
    by_cases h : i < k
    · rw [jobCells, List.getElem?_append_left (by omega)]
      exact jobCells_get j k i q h hq
    · obtain rfl : i = k := by omega
      rw [jobCells, List.getElem?_append_right (by omega), hl]
      have : i * 5 + q - i * 5 = q := by omega
      rw [this]
      match q, hq with
      | 0, _ | 1, _ | 2, _ | 3, _ | 4, _ => rfl
theorem jobCells_one (j : Nat → Jb) (k : Nat) : ∀ u ∈ jobCells j k, u.oneCell' = true := by
  induction k with
  | zero => intro u hu; cases hu
  | succ k ih =>
    intro u hu
    rcases List.mem_append.1 hu with h | h
    · exact ih u h
    · simp [Jb.cells] at h
      rcases h with rfl | rfl | rfl | rfl | rfl <;> rfl
theorem jobCells_inv {j : Nat → Jb} {k x : Nat} {u : Value} (h : (jobCells j k)[x]? = some u) : ∃ i q, i < k ∧ q < 5 ∧ x = i * 5 + q ∧ u = Jb.cell (j i) q := by
  have hx : x < k * 5 := by have := (List.getElem?_eq_some_iff.1 h).1; rwa [jobCells_length] at this
  refine ⟨x / 5, x % 5, by omega, by omega, by omega, ?_⟩
  have := jobCells_get j k (x / 5) (x % 5) (by omega) (by omega)
  rw [show x / 5 * 5 + x % 5 = x by omega, h] at this
  exact Option.some.inj this
theorem infoJ : ∃ i, Try.prog.info? 44 = some i ∧ i.zero = some (.agg #[.int .i64 0, .int .i64 0, .int .i64 0, .int .i64 0, .int .u64 0]) ∧ i.size = 5 ∧ i.bytes = 40 := by
  have h : (Try.prog.info? 44).map (fun i => (i.zero, i.size, i.bytes)) = some (some (.agg #[.int .i64 0, .int .i64 0, .int .i64 0, .int .i64 0, .int .u64 0]), 5, 40) := by kernel_rfl
  obtain ⟨i, h1, h2⟩ := Option.map_eq_some_iff.1 h
  injection h2 with h2 h3
  injection h3 with h3 h4
  exact ⟨i, h1, h2, h3, h4⟩
theorem infoSl : ∃ i, Try.prog.info? 79 = some i ∧ i.zero = some (.slice none 0 0) ∧ i.size = 1 ∧ i.bytes = 24 := by
  have h : (Try.prog.info? 79).map (fun i => (i.zero, i.size, i.bytes)) = some (some (.slice none 0 0), 1, 24) := by kernel_rfl
  obtain ⟨i, h1, h2⟩ := Option.map_eq_some_iff.1 h
  injection h2 with h2 h3
  injection h3 with h3 h4
  exact ⟨i, h1, h2, h3, h4⟩
theorem wpList_append_d {P : Program} {w : World} {ops : Array Oper} {rest : List Oper} {o : Oper} {a : Act} {Q : Exit → Act → World → Prop} (hgd : o.guard = none) (s x : Operand) (t : TypeId)
    (ho : o.op = .call { callee := .builtin .append, args := #[s, x], argTypes := #[t, t] })
    (base : Nat) (e : TypeId) (i : TypeInfo) (z : Value) (size bytes : Nat) (ht : P.underlying t = some (.slice e)) (hi : P.info? e = some i) (hz : i.zero = some z)
    (hsize : i.size = size) (hby : i.bytes = bytes) (hzs : z.cells.size = size) (hsz : 0 < size)
    (v : Value) (n : Nat) (xs : List Value) (hs : a.eval s = v) (hown : w.ownsRow base e size v n xs)
    (ad : Addr) (m c : Nat) (news : List Value) (hx : a.eval x = .slice (some ad) m c) (hl : news.length = m * size) (hnews : ∀ j u, news[j]? = some u → w.cell? (ad.add j) = some u) (h1 : ∀ u ∈ news, u.oneCell' = true)
    (h63 : n + m ≤ maxLen) (hbytes : (n + m) * bytes ≤ 140737488355328) (hbase : base ≤ w.heap.size)
    (h : ∀ v' w', w'.ownsRow base e size v' (n + m) (xs ++ news) → w.grownBy w' v.ownBlock → ((v' = .slice none 0 0) → v = .slice none 0 0) → (v'.ownBlock = v.ownBlock ∨ v'.ownBlock = some w.heap.size) → wpList P ops Q rest (a.put o.dst v') w') : wpList P ops Q (o :: rest) a w := by
  obtain ⟨v', w', hr, h2, h3, h4, h5⟩ := run_append_own_at (P := P) w base t o.type e i z size bytes ht hi hz hsize hby hzs hsz v n xs hown ad m c news hl hnews h1 h63 hbytes hbase
  refine wpList_plain hgd fun K hK => wp_value (w' := w') (v := v') ?_ (hK _ _ (h v' w' h2 h3 (fun e => (h4.1 e).1) h5))
  simp [execOp, ho, resolve, invoke, builtin, hs, hx, hr, Result.andThen]
theorem sees_news {w : World} {B : Nat} {ao : Option Addr} {n : Nat} {j : Nat → Jb} (h : SeesJ w B ao n j) : ∀ ad, ao = some ad → ∀ x u, (jobCells j n)[x]? = some u → w.cell? (ad.add x) = some u := by
  intro ad hao x u hu
  obtain ⟨i, q, hi, hq, rfl, rfl⟩ := jobCells_inv hu
  obtain ⟨b, off, he, hbl, hcc⟩ := h i hi
  rw [hao] at he
  cases he
  rw [Go.WideShapes.add_plain, ← Nat.add_assoc]
  exact hcc q hq
end KV
end Go.Proofs.Ytdflicgjkleonaa
namespace Go.Proofs.Ytdflicgjkleonaa
open Go.RowKit
namespace KV
def mk75 : List Value := [.int .i64 75, .int .i64 0, .int .i64 0, .int .i64 0, .int .u64 0]
def fullL (P : Par) (blk : Rl → Nat) (cp : Nat → Nat) (k : Nat) : List Value := (List.range k).map fun h => .slice (some ⟨blk (.trow h), 0, none⟩) (P.jn h + 1) (cp h)
def handL (P : Par) (blk : Rl → Nat) (cp : Nat → Nat) (k : Nat) : List Value := (List.range k).map fun h => .slice (some ⟨blk (.trow h), 0, none⟩) (P.jn h) (cp h)
def ownC (P : Par) (bw bs cw cs : Nat) (vh : Value) : Nat → Value := fun i => match i with | 6 => .slice (some ⟨bw, 0, none⟩) P.n cw | 7 => vh | 8 => .slice (some ⟨bs, 0, none⟩) P.ns cs | _ => .int .i64 0
theorem fullL_len (P : Par) (blk : Rl → Nat) (cp : Nat → Nat) (k : Nat) : (fullL P blk cp k).length = k * 1 := by simp [fullL]
theorem handL_len (P : Par) (blk : Rl → Nat) (cp : Nat → Nat) (k : Nat) : (handL P blk cp k).length = k * 1 := by simp [handL]
theorem fullL_congr {P : Par} {blk blk' : Rl → Nat} {cp cp' : Nat → Nat} {k : Nat} (h : ∀ i, i < k → blk' (.trow i) = blk (.trow i) ∧ cp' i = cp i) : fullL P blk' cp' k = fullL P blk cp k := by
  unfold fullL
  refine List.map_congr_left fun i hi => ?_
  obtain ⟨e1, e2⟩ := h i (List.mem_range.1 hi)
  rw [e1, e2]
theorem handL_congr {P : Par} {blk blk' : Rl → Nat} {cp cp' : Nat → Nat} {k : Nat} (h : ∀ i, i < k → blk' (.trow i) = blk (.trow i) ∧ cp' i = cp i) : handL P blk' cp' k = handL P blk cp k := by
  unfold handL
  refine List.map_congr_left fun i hi => ?_
  obtain ⟨e1, e2⟩ := h i (List.mem_range.1 hi)
  rw [e1, e2]
theorem fullL_next (P : Par) (blk : Rl → Nat) (cp : Nat → Nat) (k : Nat) : fullL P blk cp (k + 1) = fullL P blk cp k ++ [.slice (some ⟨blk (.trow k), 0, none⟩) (P.jn k + 1) (cp k)] := by simp [fullL, List.range_succ]
theorem handL_next (P : Par) (blk : Rl → Nat) (cp : Nat → Nat) (k : Nat) : handL P blk cp (k + 1) = handL P blk cp k ++ [.slice (some ⟨blk (.trow k), 0, none⟩) (P.jn k) (cp k)] := by simp [handL, List.range_succ]
structure KS (P : Par) (f : Nat → Int) (TR : TypeId) (base : Nat) (w : World) (blk : Rl → Nat) (c : Rl → Option Row) (cp : Nat → Nat) (k kf kh bw bs bo cw cs : Nat) (vf vh : Value) : Prop where
  has : Has w base blk c
  ebw : blk .words = bw
  ebs : blk .going = bs
  ebo : blk .run = bo
  words : ∃ F, c .words = some ⟨42, cw * 1, F⟩ ∧ Pre F (wordCells P.n f ++ [.int .u64 71, .int .u64 72])
  wcap : P.n + 2 ≤ cw
  sched : ∃ F, c .going = some ⟨3, cs * 1, F⟩ ∧ Pre F (numCells P.ns P.sched ++ [.int .i64 73, .int .i64 74])
  scap : P.ns + 2 ≤ cs
  own : c .run = some ⟨TR, 10, ownC P bw bs cw cs vh⟩
  row : ∀ h, h < k → ∃ F, c (.trow h) = some ⟨44, cp h * 5, F⟩ ∧ P.jn h + 1 ≤ cp h ∧ Pre F (jobCells (P.jb h) (P.jn h) ++ mk75)
  full : Grows blk c .tasks 79 1 kf (fullL P blk cp kf) vf
  hands : Grows blk c .answers 79 1 kh (handL P blk cp kh) vh
  kfl : kf ≤ k
  khl : kh ≤ k
section
variable {P : Par} {f : Nat → Int} {TR : TypeId} {base : Nat} {w w1 w' : World} {blk : Rl → Nat} {c : Rl → Option Row} {cp : Nat → Nat} {k kf kh bw bs bo cw cs : Nat} {vf vh v' : Value}
theorem KS.touch (h : KS P f TR base w blk c cp k kf kh bw bs bo cw cs vf vh) {S : Nat → Prop} (ht : Touch w w' S) (hs : ∀ r x, c r = some x → ¬ S (blk r)) : KS P f TR base w' blk c cp k kf kh bw bs bo cw cs vf vh :=
  { h with has := h.has.touch ht hs }
theorem KS.below (h : KS P f TR base w blk c cp k kf kh bw bs bo cw cs vf vh) (hb : Below w.heap.size w w') : KS P f TR base w' blk c cp k kf kh bw bs bo cw cs vf vh :=
  { h with has := h.has.below hb }
theorem KS.addRow (h : KS P f TR base w blk c cp k kf kh bw bs bo cw cs vf vh) (hb : base ≤ w.heap.size) (h0 : Touch w w' (fun _ => False)) {g cg : Nat} {F : Nat → Value} (hg : w.heap.size ≤ g) (hr : w'.rowIs g 44 (cg * 5) F) (hc : P.jn k + 1 ≤ cg) (hp : Pre F (jobCells (P.jb k) (P.jn k) ++ mk75)) :
    KS P f TR base w' (upd blk (.trow k) g) (upd c (.trow k) (some ⟨44, cg * 5, F⟩)) (upd cp k cg) (k + 1) kf kh bw bs bo cw cs vf vh := by
  have e : ∀ i, i < k → upd blk (.trow k) g (.trow i) = blk (.trow i) ∧ upd cp k cg i = cp i := fun i hi => ⟨upd_other _ _ (by simp; omega), upd_other _ _ (by omega)⟩
  refine ⟨h.has.add (.trow k) g _ hb hg h0 (fun _ _ _ _ => id) hr, by rw [upd_other _ _ (by simp)]; exact h.ebw, by rw [upd_other _ _ (by simp)]; exact h.ebs, by rw [upd_other _ _ (by simp)]; exact h.ebo, by rw [upd_other _ _ (by simp)]; exact h.words, h.wcap, by rw [upd_other _ _ (by simp)]; exact h.sched, h.scap, by rw [upd_other _ _ (by simp)]; exact h.own, fun i hi => ?_, ?_, ?_, by have := h.kfl; omega, by have := h.khl; omega⟩
  · by_cases e1 : i = k
    · subst e1
      exact ⟨F, by rw [upd_same, upd_same], by rw [upd_same]; exact hc, hp⟩
    · rw [upd_other _ _ (by simp; exact e1), upd_other _ _ e1]
      exact h.row i (by omega)
  · rw [fullL_congr (fun i hi => e i (by have := h.kfl; omega))]
    exact h.full.congr (upd_other _ _ (by simp)) (upd_other _ _ (by simp))
  · rw [handL_congr (fun i hi => e i (by have := h.khl; omega))]
    exact h.hands.congr (upd_other _ _ (by simp)) (upd_other _ _ (by simp))
theorem KS.addF (h : KS P f TR base w blk c cp k kf kh bw bs bo cw cs vf vh) (hk : kf < k) (hb : base ≤ w.heap.size) (h0 : Touch w w1 (fun _ => False))
    (hown : w'.ownsRow base 79 1 v' (kf + 1) (fullL P blk cp kf ++ [.slice (some ⟨blk (.trow kf), 0, none⟩) (P.jn kf + 1) (cp kf)])) (hg : w1.grownBy w' vf.ownBlock) (hat : v'.ownBlock = vf.ownBlock ∨ v'.ownBlock = some w1.heap.size) :
    ∃ blk' c', KS P f TR base w' blk' c' cp k (kf + 1) kh bw bs bo cw cs v' vh ∧ (∀ i, blk' (.trow i) = blk (.trow i)) := by
  obtain ⟨nb, F, cap, rfl, H, G, _, _⟩ := h.full.appended h.has hb h0 hown hg hat
  have e : ∀ i, upd blk .tasks nb (.trow i) = blk (.trow i) := fun i => upd_other _ _ (by simp)
  refine ⟨upd blk .tasks nb, upd c .tasks (some ⟨79, cap * 1, F⟩), ⟨H, by rw [upd_other _ _ (by simp)]; exact h.ebw, by rw [upd_other _ _ (by simp)]; exact h.ebs, by rw [upd_other _ _ (by simp)]; exact h.ebo, by rw [upd_other _ _ (by simp)]; exact h.words, h.wcap, by rw [upd_other _ _ (by simp)]; exact h.sched, h.scap, by rw [upd_other _ _ (by simp)]; exact h.own, fun i hi => by rw [upd_other _ _ (by simp)]; exact h.row i hi, ?_, ?_, hk, h.khl⟩, e⟩
  · rw [fullL_next, fullL_congr (fun i _ => ⟨e i, rfl⟩), e]
    exact G
  · rw [handL_congr (fun i _ => ⟨e i, rfl⟩)]
    exact h.hands.congr (upd_other _ _ (by simp)) (upd_other _ _ (by simp))
theorem own_set (P : Par) (bw bs cw cs : Nat) (vh v' : Value) (i : Nat) (hi : i < 10) : (fun j => if j = 7 then v' else ownC P bw bs cw cs vh j) i = ownC P bw bs cw cs v' i := by
  match i, hi with
  | 0, _ | 1, _ | 2, _ | 3, _ | 4, _ | 5, _ | 6, _ | 7, _ | 8, _ | 9, _ => rfl
theorem KS.addH (h : KS P f TR base w blk c cp k kf kh bw bs bo cw cs vf vh) (hk : kh < k) (hb : base ≤ w.heap.size) (h0 : Touch w w1 (fun _ => False))
    (hown : w'.ownsRow base 79 1 v' (kh + 1) (handL P blk cp kh ++ [.slice (some ⟨blk (.trow kh), 0, none⟩) (P.jn kh) (cp kh)])) (hg : w1.grownBy w' vh.ownBlock) (hat : v'.ownBlock = vh.ownBlock ∨ v'.ownBlock = some w1.heap.size) :
    ∃ blk' c', KS P f TR base (w'.setCell ⟨bo, 7, none⟩ v') blk' c' cp k kf (kh + 1) bw bs bo cw cs vf v' ∧ (∀ i, blk' (.trow i) = blk (.trow i)) := by
  obtain ⟨nb, F, cap, rfl, H, G, _, _⟩ := h.hands.appended h.has hb h0 hown hg hat
  have e : ∀ i, upd blk .answers nb (.trow i) = blk (.trow i) := fun i => upd_other _ _ (by simp)
  have eo : upd c .answers (some ⟨79, cap * 1, F⟩) .run = some ⟨TR, 10, ownC P bw bs cw cs vh⟩ := by rw [upd_other _ _ (by simp)]; exact h.own
  have eb : upd blk .answers nb .run = bo := by rw [upd_other _ _ (by simp)]; exact h.ebo
  obtain ⟨c1, hc1⟩ : ∃ c1, upd c .answers (some ⟨79, cap * 1, F⟩) = c1 := ⟨_, rfl⟩
  have hset := Has.write H .run ⟨TR, 10, ownC P bw bs cw cs (.slice (some ⟨nb, 0, none⟩) (kh + 1) cap)⟩ eo (w' := w'.setCell ⟨bo, 7, none⟩ (.slice (some ⟨nb, 0, none⟩) (kh + 1) cap)) (by rw [eb]; exact Touch.setCell (S := fun k => k = bo) (Touch.refl w' _) ⟨bo, 7, none⟩ (.inl rfl) _) (by
    have := (H.row _ _ eo).set 7 (.slice (some ⟨nb, 0, none⟩) (kh + 1) cap)
    rw [eb] at this ⊢
    exact World.rowIs.congr this (fun i hi => own_set P bw bs cw cs vh _ i hi))
  refine ⟨upd blk .answers nb, upd (upd c .answers (some ⟨79, cap * 1, F⟩)) .run (some ⟨TR, 10, ownC P bw bs cw cs (.slice (some ⟨nb, 0, none⟩) (kh + 1) cap)⟩), ⟨hset, by rw [upd_other _ _ (by simp)]; exact h.ebw, by rw [upd_other _ _ (by simp)]; exact h.ebs, eb, by rw [upd_other _ _ (by simp), upd_other _ _ (by simp)]; exact h.words, h.wcap, by rw [upd_other _ _ (by simp), upd_other _ _ (by simp)]; exact h.sched, h.scap, by rw [upd_same], fun i hi => by rw [upd_other _ _ (by simp), upd_other _ _ (by simp)]; exact h.row i hi, ?_, ?_, h.kfl, hk⟩, e⟩
  · rw [fullL_congr (fun i _ => ⟨e i, rfl⟩)]
    exact h.full.congr (upd_other _ _ (by simp)) (by rw [upd_other _ _ (by simp), upd_other _ _ (by simp)])
  · rw [handL_next, handL_congr (fun i _ => ⟨e i, rfl⟩), e]
    exact G.congr rfl (upd_other _ _ (by simp))
end
theorem KS.start {P : Par} {f : Nat → Int} {TR : TypeId} {base : Nat} {w : World} {bw bs bo cw cs : Nat} {Fw Fs : Nat → Value} (h1 : w.rowIs bw 42 (cw * 1) Fw) (p1 : Pre Fw (wordCells P.n f ++ [.int .u64 71, .int .u64 72])) (c1 : P.n + 2 ≤ cw)
    (h2 : w.rowIs bs 3 (cs * 1) Fs) (p2 : Pre Fs (numCells P.ns P.sched ++ [.int .i64 73, .int .i64 74])) (c2 : P.ns + 2 ≤ cs) (h3 : w.rowIs bo TR 10 (ownC P bw bs cw cs (.slice none 0 0)))
    (b1 : base ≤ bw) (b2 : base ≤ bs) (b3 : base ≤ bo) (n1 : bw ≠ bs) (n2 : bw ≠ bo) (n3 : bs ≠ bo) :
    ∃ blk c, KS P f TR base w blk c (fun _ => 0) 0 0 0 bw bs bo cw cs (.slice none 0 0) (.slice none 0 0) := by
  refine ⟨fun r => match r with | .words => bw | .going => bs | .run => bo | _ => 0, fun r => match r with | .words => some ⟨42, cw * 1, Fw⟩ | .going => some ⟨3, cs * 1, Fs⟩ | .run => some ⟨TR, 10, ownC P bw bs cw cs (.slice none 0 0)⟩ | _ => none, ⟨⟨?_, ?_, ?_⟩, rfl, rfl, rfl, ⟨Fw, rfl, p1⟩, c1, ⟨Fs, rfl, p2⟩, c2, rfl, fun h hh => absurd hh (Nat.not_lt_zero h), .inl ⟨rfl, rfl, rfl⟩, .inl ⟨rfl, rfl, rfl⟩, Nat.le_refl _, Nat.le_refl _⟩⟩
  · intro r r' x x' e e' he
    cases r <;> cases r' <;> simp at e e' he <;> first | rfl | omega | (exact absurd he (by first | exact n1 | exact n2 | exact n3 | exact n1.symm | exact n2.symm | exact n3.symm))
  · intro r x e
    cases r <;> simp at e <;> subst e <;> first | exact h3 | (simpa using h1) | (simpa using h2)
  · intro r x e
    cases r <;> simp at e <;> first | exact b1 | exact b2 | exact b3
end KV
end Go.Proofs.Ytdflicgjkleonaa
namespace Go.Proofs.Ytdflicgjkleonaa
open Go.RowKit
namespace KV
theorem wordCells_get {n i : Nat} (f : Nat → Int) (hi : i < n) : (wordCells n f)[i]? = some (.int .u64 (f i)) := by simp [wordCells, hi]
theorem numCells_get {n i : Nat} (s : Nat → Int) (hi : i < n) : (numCells n s)[i]? = some (.int .i64 (s i)) := by simp [numCells, hi]
theorem wordCells_len (n : Nat) (f : Nat → Int) : (wordCells n f).length = n := by simp [wordCells]
theorem numCells_len (n : Nat) (s : Nat → Int) : (numCells n s).length = n := by simp [numCells]
theorem pre_left {F : Nat → Value} {xs ys : List Value} (h : Pre F (xs ++ ys)) {i : Nat} {u : Value} (e : xs[i]? = some u) : F i = u := h i u (by rw [List.getElem?_append_left (List.getElem?_eq_some_iff.1 e).1]; exact e)
theorem pre_right {F : Nat → Value} {xs ys : List Value} (h : Pre F (xs ++ ys)) {i n : Nat} {u : Value} (hn : xs.length = n) (e : ys[i]? = some u) : F (n + i) = u := h _ u (by rw [List.getElem?_append_right (by omega), hn, Nat.add_sub_cancel_left]; exact e)
section
variable {P : Par} {f : Nat → Int} {TR : TypeId} {base : Nat} {w w1 w' : World} {blk : Rl → Nat} {c : Rl → Option Row} {cp : Nat → Nat} {k kf kh bw bs bo cw cs : Nat} {vf vh v' : Value}
theorem KS.sees (h : KS P f TR base w blk c cp k kf kh bw bs bo cw cs vf vh) : Sees w w.heap.size (some ⟨bw, 0, none⟩) P.n f := fun i hi => by
  obtain ⟨F, e, p⟩ := h.words
  have hc := h.wcap
  have := h.has.cell e (i := i) (by show i < cw * 1; omega)
  rw [h.ebw] at this
  refine ⟨bw, 0, rfl, by have := h.has.lt e; rw [h.ebw] at this; exact this, ?_⟩
  rw [Nat.zero_add]
  exact this.trans (congrArg some (pre_left p (wordCells_get f hi)))
theorem KS.seesI (h : KS P f TR base w blk c cp k kf kh bw bs bo cw cs vf vh) : SeesI w w.heap.size (some ⟨bs, 0, none⟩) P.ns P.sched := fun i hi => by
  obtain ⟨F, e, p⟩ := h.sched
  have hc := h.scap
  have := h.has.cell e (i := i) (by show i < cs * 1; omega)
  rw [h.ebs] at this
  refine ⟨bs, 0, rfl, by have := h.has.lt e; rw [h.ebs] at this; exact this, ?_⟩
  rw [Nat.zero_add]
  exact this.trans (congrArg some (pre_left p (numCells_get P.sched hi)))
theorem KS.seesJ (h : KS P f TR base w blk c cp k kf kh bw bs bo cw cs vf vh) {H : Nat} (hH : H < k) : SeesJ w w.heap.size (some ⟨blk (.trow H), 0, none⟩) (P.jn H) (P.jb H) := fun i hi => by
  obtain ⟨F, e, hc, p⟩ := h.row H hH
  refine ⟨blk (.trow H), 0, rfl, h.has.lt e, fun q hq => ?_⟩
  have := h.has.cell e (i := i * 5 + q) (by show i * 5 + q < cp H * 5; omega)
  rw [Nat.zero_add]
  exact this.trans (congrArg some (pre_left p (jobCells_get _ _ _ _ hi hq)))
theorem KS.seesH (h : KS P f TR base w blk c cp k kf P.nh bw bs bo cw cs vf vh) : ∃ ah ch, vh = .slice ah P.nh ch ∧ SeesH w w.heap.size ah P.nh P.jn P.jb := by
  rcases h.hands with ⟨h0, e, _⟩ | ⟨cap, F, e, hc, hk, hm, hp⟩
  · refine ⟨none, 0, by rw [e, h0], fun H hH => by omega⟩
  · refine ⟨_, cap, e, fun H hH => ⟨blk .answers, 0, _, cp H, rfl, h.has.lt hc, ?_, h.seesJ (by have := h.khl; omega)⟩⟩
    have := h.has.cell hc (i := H) (by show H < cap * 1; omega)
    rw [Nat.zero_add]
    exact this.trans (congrArg some (hp H _ (by simp [handL, hH] : (handL P blk cp P.nh)[H]? = some (.slice (some ⟨blk (.trow H), 0, none⟩) (P.jn H) (cp H)))))
end
structure KT (P : Par) (base : Nat) (w : World) (blk : Rl → Nat) (c : Rl → Option Row) (cp : Nat → Nat) (bw bs cw cs : Nat) (vf : Value) (si : Nat) (lo : Nat → Nat) : Prop where
  has : Has w base blk c
  ebw : blk .words = bw
  ebs : blk .going = bs
  words : ∃ F, c .words = some ⟨42, cw * 1, F⟩
  wcap : P.n + 2 ≤ cw
  sched : ∃ F, c .going = some ⟨3, cs * 1, F⟩ ∧ ∀ q, si ≤ q → q < P.ns → F q = .int .i64 (P.sched q)
  scap : P.ns + 2 ≤ cs
  row : ∀ h, h < P.nh → ∃ F, c (.trow h) = some ⟨44, cp h * 5, F⟩ ∧ P.jn h + 1 ≤ cp h ∧ (∀ j, lo h ≤ j → j < P.jn h → ∀ q, q < 5 → F (j * 5 + q) = (P.jb h j).cell q) ∧ F (P.jn h * 5) = .int .i64 75
  full : Grows blk c .tasks 79 1 P.nh (fullL P blk cp P.nh) vf
section
variable {P : Par} {f : Nat → Int} {TR : TypeId} {base : Nat} {w w1 w' : World} {blk : Rl → Nat} {c : Rl → Option Row} {cp : Nat → Nat} {bw bs bo cw cs si : Nat} {vf vh v' : Value} {lo : Nat → Nat}
theorem KS.over (h : KS P f TR base w blk c cp P.nh P.nh P.nh bw bs bo cw cs vf vh) : KT P base w blk c cp bw bs cw cs vf 0 (fun _ => 0) := by
  refine ⟨h.has, h.ebw, h.ebs, ?_, h.wcap, ?_, h.scap, fun H hH => ?_, h.full⟩
  · obtain ⟨F, e, p⟩ := h.words
    exact ⟨F, e⟩
  · obtain ⟨F, e, p⟩ := h.sched
    exact ⟨F, e, fun q _ hq => pre_left p (numCells_get P.sched hq)⟩
  · obtain ⟨F, e, hc, p⟩ := h.row H hH
    refine ⟨F, e, hc, fun j _ hj q hq => pre_left p (jobCells_get _ _ _ _ hj hq), ?_⟩
    have := pre_right p (i := 0) (jobCells_length (P.jb H) (P.jn H)) (u := .int .i64 75) rfl
    simpa using this
theorem KT.touch (h : KT P base w blk c cp bw bs cw cs vf si lo) {S : Nat → Prop} (ht : Touch w w' S) (hs : ∀ r x, c r = some x → ¬ S (blk r)) : KT P base w' blk c cp bw bs cw cs vf si lo :=
  { h with has := h.has.touch ht hs }
theorem KT.below (h : KT P base w blk c cp bw bs cw cs vf si lo) (hb : Below w.heap.size w w') : KT P base w' blk c cp bw bs cw cs vf si lo :=
  { h with has := h.has.below hb }
theorem KT.drewN (h : KT P base w blk c cp bw bs cw cs vf si lo) (m : Nat) : KT P base (w.drewN m) blk c cp bw bs cw cs vf si lo := h.below ⟨rfl, rfl, rfl, Nat.le_refl _, fun _ _ => rfl⟩
theorem KT.cellS (h : KT P base w blk c cp bw bs cw cs vf si lo) {q : Nat} (h1 : si ≤ q) (h2 : q < P.ns) : bs < w.heap.size ∧ base ≤ bs ∧ w.cell? ⟨bs, q, none⟩ = some (.int .i64 (P.sched q)) ∧ w.frozen? ⟨bs, q, none⟩ = false := by
  obtain ⟨F, e, p⟩ := h.sched
  have hc := h.scap
  have a := h.has.cell e (i := q) (by show q < cs * 1; omega)
  have b := h.has.frozen e q
  have d := h.has.lt e
  have g := h.has.new _ _ e
  rw [h.ebs] at a b d g
  exact ⟨d, g, a.trans (congrArg some (p q h1 h2)), b⟩
theorem KT.setS (h : KT P base w blk c cp bw bs cw cs vf si lo) (v : Value) : ∃ c', KT P base (w.setCell ⟨bs, si, none⟩ v) blk c' cp bw bs cw cs vf (si + 1) lo ∧ ∀ r x, c' r = some x → ∃ y, c r = some y := by
  obtain ⟨F, e, p⟩ := h.sched
  have hs := h.has.set .going e si v
  rw [h.ebs] at hs
  refine ⟨_, ⟨hs, h.ebw, h.ebs, by rw [upd_other _ _ (by simp)]; exact h.words, h.wcap, ⟨_, upd_same _ _ _, fun q h1 h2 => ?_⟩, h.scap, fun H hH => by rw [upd_other _ _ (by simp)]; exact h.row H hH, h.full.congr rfl (upd_other _ _ (by simp))⟩, fun r x ex => ?_⟩
  · show (if q = si then v else F q) = _
    rw [if_neg (by omega)]
    exact p q (by omega) h2
  · by_cases er : r = .going
    · subst er; exact ⟨_, e⟩
    · rw [upd_other _ _ er] at ex; exact ⟨x, ex⟩
theorem KT.cellW (h : KT P base w blk c cp bw bs cw cs vf si lo) {q : Nat} (h2 : q < P.n) : bw < w.heap.size ∧ base ≤ bw ∧ (∃ u, w.cell? ⟨bw, q, none⟩ = some u) ∧ w.frozen? ⟨bw, q, none⟩ = false := by
  obtain ⟨F, e⟩ := h.words
  have hc := h.wcap
  have a := h.has.cell e (i := q) (by show q < cw * 1; omega)
  have b := h.has.frozen e q
  have d := h.has.lt e
  have g := h.has.new _ _ e
  rw [h.ebw] at a b d g
  exact ⟨d, g, ⟨_, a⟩, b⟩
theorem KT.setW (h : KT P base w blk c cp bw bs cw cs vf si lo) (q : Nat) (v : Value) : ∃ c', KT P base (w.setCell ⟨bw, q, none⟩ v) blk c' cp bw bs cw cs vf si lo ∧ ∀ r x, c' r = some x → ∃ y, c r = some y := by
  obtain ⟨F, e⟩ := h.words
  have hs := h.has.set .words e q v
  rw [h.ebw] at hs
  refine ⟨_, ⟨hs, h.ebw, h.ebs, ⟨_, upd_same _ _ _⟩, h.wcap, by rw [upd_other _ _ (by simp)]; exact h.sched, h.scap, fun H hH => by rw [upd_other _ _ (by simp)]; exact h.row H hH, h.full.congr rfl (upd_other _ _ (by simp))⟩, fun r x ex => ?_⟩
  by_cases er : r = .words
  · subst er; exact ⟨_, e⟩
  · rw [upd_other _ _ er] at ex; exact ⟨x, ex⟩
theorem KT.cellF (h : KT P base w blk c cp bw bs cw cs vf si lo) {H : Nat} (hH : H < P.nh) : ∃ bf cf, vf = .slice (some ⟨bf, 0, none⟩) P.nh cf ∧ bf < w.heap.size ∧ w.cell? ⟨bf, H, none⟩ = some (.slice (some ⟨blk (.trow H), 0, none⟩) (P.jn H + 1) (cp H)) := by
  rcases h.full with ⟨h0, e, _⟩ | ⟨cap, F, e, hc, hk, hm, hp⟩
  · omega
  · refine ⟨blk .tasks, cap, e, h.has.lt hc, ?_⟩
    have := h.has.cell hc (i := H) (by show H < cap * 1; omega)
    exact this.trans (congrArg some (hp H _ (by simp [fullL, hH] : (fullL P blk cp P.nh)[H]? = some (.slice (some ⟨blk (.trow H), 0, none⟩) (P.jn H + 1) (cp H)))))
theorem KT.vfLen (h : KT P base w blk c cp bw bs cw cs vf si lo) : ∃ af cf, vf = .slice af P.nh cf := by
  rcases h.full with ⟨h0, e, _⟩ | ⟨cap, F, e, hc, hk, hm, hp⟩
  · exact ⟨none, 0, by rw [e, h0]⟩
  · exact ⟨_, _, e⟩
theorem KT.cellJ (h : KT P base w blk c cp bw bs cw cs vf si lo) {H J : Nat} (hH : H < P.nh) (h1 : lo H ≤ J) (h2 : J < P.jn H) : blk (.trow H) < w.heap.size ∧ base ≤ blk (.trow H) ∧ (∀ q, q < 5 → w.cell? ⟨blk (.trow H), J * 5 + q, none⟩ = some ((P.jb H J).cell q)) ∧ ∀ q, w.frozen? ⟨blk (.trow H), q, none⟩ = false := by
  obtain ⟨F, e, hc, p, _⟩ := h.row H hH
  refine ⟨h.has.lt e, h.has.new _ _ e, fun q hq => ?_, fun q => h.has.frozen e q⟩
  have := h.has.cell e (i := J * 5 + q) (by show J * 5 + q < cp H * 5; omega)
  exact this.trans (congrArg some (p J h1 h2 q hq))
theorem KT.cellM (h : KT P base w blk c cp bw bs cw cs vf si lo) {H : Nat} (hH : H < P.nh) : blk (.trow H) < w.heap.size ∧ w.cell? ⟨blk (.trow H), P.jn H * 5, none⟩ = some (.int .i64 75) := by
  obtain ⟨F, e, hc, p, m⟩ := h.row H hH
  refine ⟨h.has.lt e, ?_⟩
  have := h.has.cell e (i := P.jn H * 5) (by show P.jn H * 5 < cp H * 5; omega)
  exact this.trans (congrArg some (m))
theorem KT.setJ (h : KT P base w blk c cp bw bs cw cs vf si lo) {H J : Nat} (hH : H < P.nh) (h1 : lo H ≤ J) (h2 : J < P.jn H) (v0 v1 v2 v3 v4 : Value) : ∃ c', KT P base (((((w.setCell ⟨blk (.trow H), J * 5, none⟩ v0).setCell ⟨blk (.trow H), J * 5 + 1, none⟩ v1).setCell ⟨blk (.trow H), J * 5 + 2, none⟩ v2).setCell ⟨blk (.trow H), J * 5 + 3, none⟩ v3).setCell ⟨blk (.trow H), J * 5 + 4, none⟩ v4) blk c' cp bw bs cw cs vf si (upd lo H (J + 1)) ∧ ∀ r x, c' r = some x → ∃ y, c r = some y := by
  obtain ⟨F, e, hc, p, m⟩ := h.row H hH
  have hr := ((((h.has.row _ _ e).set (J * 5) v0).set (J * 5 + 1) v1).set (J * 5 + 2) v2).set (J * 5 + 3) v3 |>.set (J * 5 + 4) v4
  have ht : Touch w (((((w.setCell ⟨blk (.trow H), J * 5, none⟩ v0).setCell ⟨blk (.trow H), J * 5 + 1, none⟩ v1).setCell ⟨blk (.trow H), J * 5 + 2, none⟩ v2).setCell ⟨blk (.trow H), J * 5 + 3, none⟩ v3).setCell ⟨blk (.trow H), J * 5 + 4, none⟩ v4) (fun k => k = blk (.trow H)) := by
    exact Touch.setCell (Touch.setCell (Touch.setCell (Touch.setCell (Touch.setCell (Touch.refl w (fun k => k = blk (.trow H))) ⟨blk (.trow H), J * 5, none⟩ (.inl rfl) v0) ⟨blk (.trow H), J * 5 + 1, none⟩ (.inl rfl) v1) ⟨blk (.trow H), J * 5 + 2, none⟩ (.inl rfl) v2) ⟨blk (.trow H), J * 5 + 3, none⟩ (.inl rfl) v3) ⟨blk (.trow H), J * 5 + 4, none⟩ (.inl rfl) v4
  have hs := h.has.write (.trow H) ⟨44, cp H * 5, fun j => if j = J * 5 + 4 then v4 else if j = J * 5 + 3 then v3 else if j = J * 5 + 2 then v2 else if j = J * 5 + 1 then v1 else if j = J * 5 then v0 else F j⟩ e ht hr
  refine ⟨_, ⟨hs, h.ebw, h.ebs, by rw [upd_other _ _ (by simp)]; exact h.words, h.wcap, by rw [upd_other _ _ (by simp)]; exact h.sched, h.scap, fun H' hH' => ?_, h.full.congr rfl (upd_other _ _ (by simp))⟩, fun r x ex => ?_⟩
  · by_cases eH : H' = H
    · subst eH
      refine ⟨_, upd_same _ _ _, hc, fun j hj hj2 q hq => ?_, ?_⟩
      · rw [upd_same] at hj
        rw [if_neg (by omega), if_neg (by omega), if_neg (by omega), if_neg (by omega), if_neg (by omega)]
        exact p j (by omega) hj2 q hq
      · rw [if_neg (by omega), if_neg (by omega), if_neg (by omega), if_neg (by omega), if_neg (by omega)]
        exact m
    · rw [upd_other _ _ (by simp; exact eH), upd_other _ _ eH]
      exact h.row H' hH'
  · by_cases er : r = .trow H
    · subst er; exact ⟨_, e⟩
    · rw [upd_other _ _ er] at ex; exact ⟨x, ex⟩
end
end KV
end Go.Proofs.Ytdflicgjkleonaa
namespace Go.Proofs.Ytdflicgjkleonaa
open Go.RowKit
namespace RH
open RetN (pv D)
structure In (ks : List (Nat × Nat)) (vals : Nat → Value) (xs : List Nat) (WI : (Nat → Bool) → (Nat → Value) → World → Prop) (a0 : Act) (L : Nat → Bool) (a : Act) (w : World) : Prop where
  sz : a.tmps.size = a0.tmps.size
  df : a.defers = a0.defers
  fix : ∀ k, ¬ D ks k → xs.contains k = false → a.eval (.tmp k) = a0.eval (.tmp k)
  pure : ∀ i d v, pv ks vals i = some (d, v) → L i = true → a.eval (.tmp d) = v
  world : WI L (fun k => a.eval (.tmp k)) w
inductive Does (P : Program) (Q : Exit → Act → World → Prop) (ks : List (Nat × Nat)) (vals : Nat → Value) (xs : List Nat) (WI : (Nat → Bool) → (Nat → Value) → World → Prop) (a0 : Act) (i : Nat) (o : Oper) : Prop where
  | mk (dst : o.dst = Reg.look ks i) (wp : ∀ L a w (K : Act → World → Prop), In ks vals xs WI a0 L a w → L i = false → (∀ e ∈ o.after, Region.binds .any e = true → L e.on = true) → (∀ w' v, (∀ d, o.dst = some d → v = vals i) → WI (upd L i true) (fun k => a.eval (.tmp k)) w' → K (a.put o.dst v) w') → o.wp P a w K Q)
  | own (x : Nat) (dst : o.dst = some x) (hx : xs.contains x = true) (no : Reg.look ks i = none) (wp : ∀ L a w (K : Act → World → Prop), In ks vals xs WI a0 L a w → L i = false → (∀ e ∈ o.after, Region.binds .any e = true → L e.on = true) → (∀ w' v, WI (upd L i true) (fun k => if k = x then v else a.eval (.tmp k)) w' → K (a.put (some x) v) w') → o.wp P a w K Q)
theorem region {P : Program} {id : Nat} {ops : Array Oper} {Q : Exit → Act → World → Prop} {ks : List (Nat × Nat)} {vals : Nat → Value} {xs : List Nat} {WI : (Nat → Bool) → (Nat → Value) → World → Prop} {w0 : World} {a0 : Act}
    (hm : P.follows .mixedOrders = true) (hg : ∀ (i : Nat) (o : Oper), ops[i]? = some o → o.guard = none) (hback : ∀ (i : Nat) (o : Oper), ops[i]? = some o → ∀ e ∈ o.after, Region.binds .any e = true → e.on < i)
    (hgood : (ks.all fun p => (ks.all fun q => p.1 == q.1 || p.2 != q.2) && !xs.contains p.2) = true) (hD : ∀ k, D ks k → k < a0.tmps.size) (hX : ∀ k, xs.contains k = true → k < a0.tmps.size)
    (hloc : ∀ L s s' w, (∀ k, xs.contains k = true → s k = s' k) → WI L s w → WI L s' w) (hW0 : ∀ s, WI (fun _ => false) s { w0 with drawn := w0.drawn + 1 })
    (does : ∀ (i : Nat) (o : Oper), ops[i]? = some o → Does P Q ks vals xs WI a0 i o)
    (fin : ∀ L a w, In ks vals xs WI a0 L a w → (∀ i, i < ops.size → L i = true) → Q .normal a w) :
    (Code.region id ops true).wp P Q a0 w0 := by
  simp only [List.all_eq_true, bne_iff_ne, Bool.or_eq_true, beq_iff_eq, Bool.and_eq_true, Bool.not_eq_true'] at hgood
  have pvm : ∀ {i d v}, pv ks vals i = some (d, v) → (i, d) ∈ ks := fun {i d v} h => by
    obtain ⟨d', h1, h2⟩ := Option.map_eq_some_iff.1 h
    cases h2; exact Reg.look_mem h1
  refine region_inv hm hg hback (fun L a w => In ks vals xs WI a0 L a w) ?step (fun L a w h hall => fin L a w h hall) ?start
  case start => exact ⟨rfl, rfl, fun _ _ _ => rfl, fun _ _ _ _ h => (by cases h), hW0 _⟩
  case step =>
    rintro L a w i o h ho hL hd
    have none_ok : ∀ {j d' v'}, Reg.look ks i = none → pv ks vals j = some (d', v') → upd L i true j = true → L j = true := fun {j d' v'} hlk hj hLj => by
      have hji : j ≠ i := fun e => by
        subst e
        obtain ⟨d'', h1, _⟩ := Option.map_eq_some_iff.1 hj
        rw [hlk] at h1; cases h1
      rwa [upd_other _ _ hji] at hLj
    rcases does i o ho with ⟨hdst, hwp⟩ | ⟨x, hdst, hx, hno, hwp⟩
    · refine hwp L a w _ h hL hd (fun w' v hv hW => ?_)
      cases hlk : Reg.look ks i with
      | none =>
        rw [hdst, hlk]
        exact ⟨h.sz, h.df, h.fix, fun j d' v' hj hLj => h.pure j d' v' hj (none_ok hlk hj hLj), hW⟩
      | some d =>
        have hv' := hv d (hdst.trans hlk)
        subst hv'
        rw [hdst, hlk]
        have hm' : (i, d) ∈ ks := Reg.look_mem hlk
        have hDd : D ks d := by simp only [D, List.any_eq_true, beq_iff_eq]; exact ⟨_, hm', rfl⟩
        have e : ∀ k : Nat, k ≠ d → (a.put (some d) (vals i)).eval (.tmp k) = a.eval (.tmp k) := fun k hk => put_other hk
        refine ⟨by rw [put_size]; exact h.sz, by rw [put_defs]; exact h.df, fun k hk hkx => ?_, fun j d' v' hj hLj => ?_, hloc _ _ _ _ (fun k hk => (e k (fun he => by subst he; rw [(hgood _ hm').2] at hk; cases hk)).symm) hW⟩
        · rw [e k (fun he => hk (he ▸ hDd))]; exact h.fix k hk hkx
        · by_cases hij : j = i
          · subst hij
            rw [pv, hlk] at hj
            cases hj
            exact put_eval (by rw [h.sz]; exact hD _ hDd)
          · rw [upd_other _ _ hij] at hLj
            have : d' ≠ d := by
              rcases (hgood _ hm').1 _ (pvm hj) with e1 | e1
              · exact absurd e1.symm hij
              · exact Ne.symm e1
            rw [e d' this]
            exact h.pure j d' v' hj hLj
    · refine hwp L a w _ h hL hd (fun w' v hW => ?_)
      have e : ∀ k : Nat, k ≠ x → (a.put (some x) v).eval (.tmp k) = a.eval (.tmp k) := fun k hk => put_other hk
      have ex : (a.put (some x) v).eval (.tmp x) = v := put_eval (by rw [h.sz]; exact hX x hx)
      refine ⟨by rw [put_size]; exact h.sz, by rw [put_defs]; exact h.df, fun k hk hkx => by rw [e k (fun he => by subst he; rw [hx] at hkx; cases hkx)]; exact h.fix k hk hkx, fun j d' v' hj hLj => ?_, hloc _ _ _ _ (fun k hk => ?_) hW⟩
      · rw [e d' (fun he => by subst he; have := (hgood _ (pvm hj)).2; rw [hx] at this; cases this)]
        exact h.pure j d' v' hj (none_ok hno hj hLj)
      · by_cases he : k = x
        · subst he; simp [ex]
        · simp [he, e k he]
section
variable {P : Program} {Q : Exit → Act → World → Prop} {ks : List (Nat × Nat)} {vals : Nat → Value} {xs : List Nat} {WI : (Nat → Bool) → (Nat → Value) → World → Prop} {a0 : Act} {i : Nat} {o : Oper}
theorem Does.read (hd : o.dst = Reg.look ks i) (hW : ∀ L s w, WI L s w → WI (upd L i true) s w) (h : ∀ L a w, In ks vals xs WI a0 L a w → (∀ e ∈ o.after, Region.binds .any e = true → L e.on = true) → (execOp a.eval o).run P w = .ok (.value (vals i)) w) : Does P Q ks vals xs WI a0 i o :=
  .mk hd fun L a w K hI _ hdep hk => wp_value (h L a w hI hdep) (hk w _ (fun _ _ => rfl) (hW L _ w hI.world))
theorem Does.call {x : Nat} {f : FuncId} {args : Array Value} (hd : o.dst = some x) (hx : xs.contains x = true) (hn : Reg.look ks i = none) (h : ∀ L a w, In ks vals xs WI a0 L a w → (∀ e ∈ o.after, Region.binds .any e = true → L e.on = true) → (execOp a.eval o).run P w = .ok (.enter f args) w)
    (hc : ∀ L s w, WI L s w → L i = false → Calls P f args w fun e w' => ∃ v, e = .returned v ∧ WI (upd L i true) (fun k => if k = x then v else s k) w') : Does P Q ks vals xs WI a0 i o :=
  .own x hd hx hn fun L a w K hI hL hdep hk => wp_call (h L a w hI hdep) ((hc L _ w hI.world hL).mono (by rintro e w' ⟨v, rfl, hw⟩; exact ⟨_, rfl, by rw [hd]; exact hk _ _ hw⟩))
end
end RH
end Go.Proofs.Ytdflicgjkleonaa
namespace Go.Proofs.Ytdflicgjkleonaa
open Go.RowKit
namespace KV
section
variable {P : Par} {f : Nat → Int} {TR : TypeId} {base : Nat} {w w1 w' : World} {blk : Rl → Nat} {c : Rl → Option Row} {cp : Nat → Nat} {k kf kh bw bs bo cw cs : Nat} {vf vh v' : Value}
theorem KS.own_ne (h : KS P f TR base w blk c cp k kf kh bw bs bo cw cs vf vh) : some bo ≠ vh.ownBlock := by
  rcases h.hands with ⟨_, e, _⟩ | ⟨cap, F, e, hc, _⟩
  · rw [e]; exact fun h => by cases h
  · rw [e]
    intro he
    have he' : bo = blk .answers := by simpa [Value.ownBlock] using he
    exact h.has.ne h.own hc (by simp) (h.ebo.trans he')
theorem KS.own_at (h : KS P f TR base w blk c cp k kf kh bw bs bo cw cs vf vh) : bo < w.heap.size ∧ base ≤ bo ∧ w.rowIs bo TR 10 (ownC P bw bs cw cs vh) := by
  have h1 := h.has.row _ _ h.own
  have h2 := h.has.new _ _ h.own
  rw [h.ebo] at h1 h2
  exact ⟨h1.lt, h2, h1⟩
end
theorem wp_append_at {P : Program} {o : Oper} {a : Act} {w : World} {K : Act → World → Prop} {Q : Exit → Act → World → Prop}
    (hg : o.guard = none) (s x : Operand) (t : TypeId) (hop : o.op = Op.call { callee := Callee.builtin Builtin.append, args := #[s, x], argTypes := #[t, t] })
    (base : Nat) (e : TypeId) (z : Value) (size bytes : Nat) (ht : P.underlying t = some (.slice e)) (hi : (P.info? e).map (fun i => (i.zero, i.size, i.bytes)) = some (some z, size, bytes))
    (hzs : z.cells.size = size) (hsz : 0 < size)
    (v : Value) (n : Nat) (xs : List Value) (hs : a.eval s = v) (hown : w.ownsRow base e size v n xs)
    (ad : Addr) (m c : Nat) (news : List Value) (hx : a.eval x = .slice (some ad) m c) (hl : news.length = m * size) (hnews : ∀ j u, news[j]? = some u → w.cell? (ad.add j) = some u) (h1 : ∀ u ∈ news, u.oneCell' = true)
    (h63 : n + m ≤ maxLen) (hbytes : (n + m) * bytes ≤ 140737488355328) (hbase : base ≤ w.heap.size)
    (h : ∀ v' w', w'.ownsRow base e size v' (n + m) (xs ++ news) → w.grownBy w' v.ownBlock → (v'.ownBlock = v.ownBlock ∨ v'.ownBlock = some w.heap.size) → K (a.put o.dst v') w') : o.wp P a w K Q := by
  have := step_append_at (ops := #[]) (E := False) (Q := Q) hg s x t hop base e z size bytes ht hi hzs hsz v n xs hs hown ad m c news hx hl hnews h1 h63 hbytes hbase h
  split at this
  · exact this
  · exact this.elim
theorem infoSlz : (Try.prog.info? 79).map (fun i => (i.zero, i.size, i.bytes)) = some (some (.slice none 0 0), 1, 24) := by kernel_rfl
structure KA (P : Par) (f : Nat → Int) (TR : TypeId) (W0 : World) (blk : Rl → Nat) (c : Rl → Option Row) (cp : Nat → Nat) (k gw gs bo cw cs : Nat) (vf vh : Value) (g5 jk c5 : Nat) (L1 L10 L11 L13 : Bool) (s1 s2 : Value) (w : World) : Prop where
  bel : Below W0.heap.size W0 w
  d0 : L11 = true → L10 = true
  d1 : L11 = true → L1 = true
  d2 : L13 = true → L11 = true
  pre : L11 = false → KS P f TR W0.heap.size w blk c cp (k + 1) (k + 1) k gw gs bo cw cs vf vh
  arr : L11 = false → L10 = true → ∃ q, s1 = .slice (some ⟨q, 0, none⟩) 1 1 ∧ w.cell? ⟨q, 0, none⟩ = some (.slice (some ⟨g5, 0, none⟩) jk c5)
  app : L11 = true → L13 = false → (∃ x y z, s2 = .slice x y z) ∧ (∃ blk7 c7, KS P f TR W0.heap.size (w.setCell ⟨bo, 7, none⟩ s2) blk7 c7 cp (k + 1) (k + 1) (k + 1) gw gs bo cw cs vf s2) ∧ w.cell? ⟨bo, 7, none⟩ = some vh ∧ w.frozen? ⟨bo, 7, none⟩ = false ∧ W0.heap.size ≤ bo
  fin : L13 = true → ∃ blk7 c7 vh7, KS P f TR W0.heap.size w blk7 c7 cp (k + 1) (k + 1) (k + 1) gw gs bo cw cs vf vh7
section
variable {P : Par} {f : Nat → Int} {TR : TypeId} {W0 w w' : World} {blk : Rl → Nat} {c : Rl → Option Row} {cp : Nat → Nat} {k gw gs bo cw cs : Nat} {vf vh : Value} {g5 jk c5 : Nat} {L1 L10 L11 L13 : Bool} {s1 s2 : Value}
theorem KA.start (hb : Below W0.heap.size W0 w) (h : KS P f TR W0.heap.size w blk c cp (k + 1) (k + 1) k gw gs bo cw cs vf vh) : KA P f TR W0 blk c cp k gw gs bo cw cs vf vh g5 jk c5 false false false false s1 s2 { w with drawn := w.drawn + 1 } :=
  ⟨⟨hb.os, hb.tape, hb.output, hb.size, hb.block⟩, fun h => (by cases h), fun h => (by cases h), fun h => (by cases h), fun _ => h.below ⟨rfl, rfl, rfl, Nat.le_refl _, fun _ _ => rfl⟩, fun _ h => (by cases h), fun h => (by cases h), fun h => (by cases h)⟩
theorem KA.skip {L : Nat → Bool} {i : Nat} (n1 : 1 ≠ i) (n10 : 10 ≠ i) (n11 : 11 ≠ i) (n13 : 13 ≠ i) (h : KA P f TR W0 blk c cp k gw gs bo cw cs vf vh g5 jk c5 (L 1) (L 10) (L 11) (L 13) s1 s2 w) :
    KA P f TR W0 blk c cp k gw gs bo cw cs vf vh g5 jk c5 (upd L i true 1) (upd L i true 10) (upd L i true 11) (upd L i true 13) s1 s2 w := by
  rwa [upd_other _ _ n1, upd_other _ _ n10, upd_other _ _ n11, upd_other _ _ n13]
theorem KA.read {L : Nat → Bool} (h : KA P f TR W0 blk c cp k gw gs bo cw cs vf vh g5 jk c5 (L 1) (L 10) (L 11) (L 13) s1 s2 w) :
    KA P f TR W0 blk c cp k gw gs bo cw cs vf vh g5 jk c5 (upd L 1 true 1) (upd L 1 true 10) (upd L 1 true 11) (upd L 1 true 13) s1 s2 w := by
  rw [upd_same, upd_other _ _ (by decide), upd_other _ _ (by decide), upd_other _ _ (by decide)]
  exact ⟨h.bel, h.d0, fun _ => rfl, h.d2, h.pre, h.arr, h.app, h.fin⟩
theorem KA.build (h : KA P f TR W0 blk c cp k gw gs bo cw cs vf vh g5 jk c5 L1 L10 L11 L13 s1 s2 w) (hL : L10 = false) :
    KA P f TR W0 blk c cp k gw gs bo cw cs vf vh g5 jk c5 L1 true L11 L13 (.slice (some ⟨w.heap.size, 0, none⟩) 1 1) s2 (w.alloc (.cells #[.slice (some ⟨g5, 0, none⟩) jk c5] 79)) := by
  have h11 : L11 = false := by
    cases e : L11 with
    | false => rfl
    | true => have := h.d0 e; rw [hL] at this; cases this
  have h13 : L13 = false := by
    cases e : L13 with
    | false => rfl
    | true => have := h.d2 e; rw [h11] at this; cases this
  subst h11 h13
  exact ⟨h.bel.alloc h.bel.size _, fun h => (by cases h), fun h => (by cases h), fun h => (by cases h), fun _ => (h.pre rfl).below ((Below.refl _ w).alloc (Nat.le_refl _) _), fun _ _ => ⟨_, rfl, by simp⟩, fun h => (by cases h), fun h => (by cases h)⟩
theorem KA.append {o : Oper} {a : Act} {K : Act → World → Prop} {Q : Exit → Act → World → Prop} {t1 t2 : Operand} (h : KA P f TR W0 blk c cp k gw gs bo cw cs vf vh g5 jk c5 L1 L10 L11 L13 s1 s2 w) (hL : L11 = false) (h1 : L1 = true) (h10 : L10 = true)
    (hg : o.guard = none) (hop : o.op = Op.call { callee := Callee.builtin Builtin.append, args := #[t1, t2], argTypes := #[25, 25] }) (e1 : a.eval t1 = vh) (e2 : a.eval t2 = s1) (eg : blk (.trow k) = g5) (ec : cp k = c5) (ej : P.jn k = jk) (hm : k + 1 ≤ maxLen ∧ (k + 1) * 24 ≤ 140737488355328)
    (hk : ∀ w' v, KA P f TR W0 blk c cp k gw gs bo cw cs vf vh g5 jk c5 L1 L10 true L13 s1 v w' → K (a.put o.dst v) w') : o.wp Try.prog a w K Q := by
  have h13 : L13 = false := by
    cases e : L13 with
    | false => rfl
    | true => have := h.d2 e; rw [hL] at this; cases this
  obtain ⟨q, rfl, hq⟩ := h.arr hL h10
  have hK := h.pre hL
  refine wp_append_at hg t1 t2 25 hop W0.heap.size 79 (.slice none 0 0) 1 24 Try.underlying25 infoSlz rfl (by decide) vh k (handL P blk cp k) e1 (hK.hands.owns hK.has (handL_len _ _ _ _)) ⟨q, 0, none⟩ 1 1 [.slice (some ⟨g5, 0, none⟩) jk c5] e2 rfl (fun j u hu => ?_) (by simp [Value.oneCell']) hm.1 hm.2 h.bel.size (fun v' w' hown hgr hat => hk w' v' ?_)
  · match j, hu with
    | 0, hu =>
      injection hu with hu
      subst hu
      rw [Go.WideShapes.add_plain]
      exact hq
  · obtain ⟨blk7, c7, K7, _⟩ := hK.addH (Nat.lt_succ_self k) h.bel.size (Touch.refl w _) (by rw [eg, ec, ej]; exact hown) hgr hat
    obtain ⟨nb7, cap7, _, rfl, _⟩ := row_of_owns hown (by omega)
    have hat6 := hK.own_at
    have hbk : w'.heap[bo]? = w.heap[bo]? := hgr.block bo hat6.1 (fun e => hK.own_ne e)
    have hrow := hat6.2.2.of_block hbk
    refine ⟨h.bel.grown hgr h.bel.size (fun q hq => ((hK.hands.owns hK.has (handL_len _ _ _ _)).lt q hq).1), fun _ => h10, fun _ => h1, fun e => absurd (h13.symm.trans e) (by decide), fun e => (by cases e), fun e => (by cases e), fun _ _ => ⟨⟨_, _, _, rfl⟩, ⟨blk7, c7, K7⟩, hrow.cell (i := 7) (by omega), hrow.frozen 7, hat6.2.1⟩, fun e => absurd (h13.symm.trans e) (by decide)⟩
theorem KA.put (h : KA P f TR W0 blk c cp k gw gs bo cw cs vf vh g5 jk c5 L1 L10 L11 L13 s1 s2 w) (h11 : L11 = true) (hL : L13 = false) :
    KA P f TR W0 blk c cp k gw gs bo cw cs vf vh g5 jk c5 L1 L10 L11 true s1 s2 (w.setCell ⟨bo, 7, none⟩ s2) := by
  obtain ⟨_, ⟨b7, c7, K7⟩, _, _, hb⟩ := h.app h11 hL
  exact ⟨h.bel.setCell hb _, h.d0, h.d1, fun _ => h11, fun e => absurd (h11.symm.trans e) (by decide), fun e => absurd (h11.symm.trans e) (by decide), fun _ e => (by cases e), fun _ => ⟨b7, c7, s2, K7⟩⟩
end
theorem wp_store_sl {a : Act} {o : Oper} {w : World} {K : Act → World → Prop} {Q : Exit → Act → World → Prop} {x y : Operand} {g q n m : Nat} {ao : Option Addr} {u : Value} (ho : o.op = .store 25 x y) (hx : a.eval x = .pointer (some ⟨g, q, none⟩)) (hy : a.eval y = .slice ao n m) (hc : w.cell? ⟨g, q, none⟩ = some u) (hf : w.frozen? ⟨g, q, none⟩ = false)
    (h : K (a.put o.dst undef) (w.setCell ⟨g, q, none⟩ (.slice ao n m))) : o.wp Try.prog a w K Q := by
  simp only [Oper.wp, execOp, ho, hx, hy]
  simp [go_sem, hc, hf, Oper.upon]
  exact h
theorem ex_bslice {ev : Operand → Value} {o : Oper} {w : World} {x : Operand} {ao : Option Addr} {n m : Nat} (ho : o.op = .buildSlice 25 1 #[(0, x)]) (hx : ev x = .slice ao n m) : (execOp ev o).run Try.prog w = .ok (.value (.slice (some ⟨w.heap.size, 0, none⟩) 1 1)) (w.alloc (.cells #[.slice ao n m] 79)) := by
  simp [execOp, ho, hx, go_sem]
theorem ex_lenJ {ev : Operand → Value} {o : Oper} {w : World} {x : Operand} {ao : Option Addr} {n m : Nat} (ho : o.op = .call { callee := .builtin .len, args := #[x], argTypes := #[79] }) (hx : ev x = .slice ao n m) : (execOp ev o).run Try.prog w = .ok (.value (.int .i64 (n : Int))) w := by
  simp [execOp, ho, hx, go_sem]
theorem ex_sliceJ {ev : Operand → Value} {o : Oper} {w : World} {x y : Operand} {g n m j : Nat} (ho : o.op = .slice 79 x none (some y) none) (hx : ev x = .slice (some ⟨g, 0, none⟩) n m) (hy : ev y = .int .i64 (j : Int)) (hj : j ≤ m) : (execOp ev o).run Try.prog w = .ok (.value (.slice (some ⟨g, 0, none⟩) j m)) w := by
  have h1 : ¬ (m : Int) < (j : Int) := by omega
  have h2 : ¬ m < j := by omega
  have h3 : (j : Int) ≤ (m : Int) := by omega
  simp [execOp, ho, hx, hy, go_sem, h1, h2, h3, hj]
theorem aggSS (w : World) : (isAgg 25).run Try.prog w = .ok false w := by simp [go_sem]
theorem aggSJ (w : World) : (isAgg 79).run Try.prog w = .ok false w := by simp [go_sem]
theorem sizeSJ : (Try.prog.info? 79).map (·.size) = some 1 := by kernel_rfl
theorem KS.marks {P : Par} {f : Nat → Int} {TR : TypeId} {base : Nat} {w : World} {blk : Rl → Nat} {c : Rl → Option Row} {cp : Nat → Nat} {k kf kh bw bs bo cw cs : Nat} {vf vh : Value} (h : KS P f TR base w blk c cp k kf kh bw bs bo cw cs vf vh) :
    w.cell? ⟨bw, P.n, none⟩ = some (.int .u64 71) ∧ w.cell? ⟨bw, P.n + 1, none⟩ = some (.int .u64 72) ∧ w.cell? ⟨bs, P.ns, none⟩ = some (.int .i64 73) ∧ w.cell? ⟨bs, P.ns + 1, none⟩ = some (.int .i64 74) := by
  obtain ⟨F, e, p⟩ := h.words
  obtain ⟨G, e', p'⟩ := h.sched
  have hc := h.wcap
  have hc' := h.scap
  have a1 := h.has.cell e (i := P.n) (by show P.n < cw * 1; omega)
  have a2 := h.has.cell e (i := P.n + 1) (by show P.n + 1 < cw * 1; omega)
  have a3 := h.has.cell e' (i := P.ns) (by show P.ns < cs * 1; omega)
  have a4 := h.has.cell e' (i := P.ns + 1) (by show P.ns + 1 < cs * 1; omega)
  rw [h.ebw] at a1 a2
  rw [h.ebs] at a3 a4
  exact ⟨a1.trans (congrArg some (pre_right (i := 0) p (wordCells_len _ _) rfl)), a2.trans (congrArg some (pre_right (i := 1) p (wordCells_len _ _) rfl)), a3.trans (congrArg some (pre_right (i := 0) p' (numCells_len _ _) rfl)), a4.trans (congrArg some (pre_right (i := 1) p' (numCells_len _ _) rfl))⟩
theorem KS.lts {P : Par} {f : Nat → Int} {TR : TypeId} {base : Nat} {w : World} {blk : Rl → Nat} {c : Rl → Option Row} {cp : Nat → Nat} {k kf kh bw bs bo cw cs : Nat} {vf vh : Value} (h : KS P f TR base w blk c cp k kf kh bw bs bo cw cs vf vh) :
    bw < w.heap.size ∧ bs < w.heap.size ∧ ∀ H, H < k → blk (.trow H) < w.heap.size := by
  obtain ⟨F, e, p⟩ := h.words
  obtain ⟨G, e', p'⟩ := h.sched
  have a1 := h.has.lt e
  have a2 := h.has.lt e'
  rw [h.ebw] at a1
  rw [h.ebs] at a2
  exact ⟨a1, a2, fun H hH => by obtain ⟨_, e3, _⟩ := h.row H hH; exact h.has.lt e3⟩
theorem touch_drewN {w w' : World} {S : Nat → Prop} (h : Touch w w' S) (m : Nat) : Touch w (w'.drewN m) S := ⟨h.os, h.tape, h.output, h.size, h.block⟩
theorem up_wrap {k : Nat} (h : (k : Int) ≤ 9223372036854775805) : wrap64 ((k : Int) + 1) = ((k + 1 : Nat) : Int) := by unfold wrap64; omega
theorem meas_up {k n : Nat} (h : k < n) : n - (intOf (.int .i64 ((k + 1 : Nat) : Int))).toNat < n - (intOf (.int .i64 (k : Int))).toNat := by
  show n - ((k + 1 : Nat) : Int).toNat < n - (k : Int).toNat
  omega
end KV
end Go.Proofs.Ytdflicgjkleonaa
