/-
  Lemmas: RunW, RInv, CopyW, RBegin.
-/
import Derived.Test.YtchhkoalibapiaaTp06
import Derived.Test.YtchhkoalibapiaaTp03
import Derived.Test.YtchhkoalibapiaaTp05
import Derived.Orders
import Derived.Laws.AppendOwnNone
import Derived.Deep.MidRow
/-
  A run's words stay words, and its tasks stay whole, for every kind of tasks. No program here.
-/
namespace Go.Proofs.Ytchhkoalibapiaa
set_option linter.unusedVariables false
set_option linter.unusedSimpArgs false

theorem wordsOf_bounds {n : Nat} {f : Nat → Int} (hf : ∀ i, i < n → 0 ≤ f i ∧ f i ≤ 18446744073709551615) {q : Stp} (hq : 0 ≤ q.put ∧ q.put ≤ 18446744073709551615) : ∀ i, i < n → 0 ≤ wordsOf n f q i ∧ wordsOf n f q i ≤ 18446744073709551615 := by
  intro i hi
  unfold wordsOf
  split
  · rename_i h
    unfold putF
    split
    · unfold stepOf
      rw [if_pos h]
      exact putBy_bounds (hf _ (by omega)) hq
    · exact hf i hi
  · exact hf i hi

theorem stepOf_had {n : Nat} {f : Nat → Int} (hf : ∀ i, i < n → 0 ≤ f i ∧ f i ≤ 18446744073709551615) (q : Stp) : 0 ≤ (stepOf n f q).had ∧ (stepOf n f q).had ≤ 18446744073709551615 := by
  unfold stepOf
  split
  · rename_i h
    exact hf _ (by omega)
  · exact ⟨Int.le_refl 0, by show (0 : Int) ≤ 18446744073709551615; decide⟩

/-- What a run keeps: its words are words, the task under way of a hand that goes on is one of its job's. -/
structure WR {K : Kd} (P : Par) (st : St K) : Prop where
  word : ∀ i, i < P.n → 0 ≤ st.f i ∧ st.f i ≤ 18446744073709551615
  wf : ∀ h, h < P.nh → st.done h < P.jn h → K.wf (P.jb h (st.done h)) (st.cur h)

theorem WR.step {K : Kd} {P : Par} {st : St K} (ok : K.Ok) (hput : ∀ j s, K.wf j s → 0 ≤ (K.req s).put ∧ (K.req s).put ≤ 18446744073709551615) (hfine : ∀ h, h < P.nh → ∀ j, j < P.jn h → K.fine (P.jb h j)) (W : WR P st) {h : Nat} (hh : h < P.nh) (hd : st.done h < P.jn h) : WR P (stepSt P st h) := by
  have w0 := W.wf h hh hd
  refine ⟨wordsOf_bounds W.word (hput _ _ w0), fun h' hh' hd' => ?_⟩
  by_cases e : h' = h
  · subst e
    by_cases he : K.ends (st.cur h') (stepOf P.n st.f (K.req (st.cur h'))) = true
    · have ed : (stepSt P st h').done = upd st.done h' (st.done h' + 1) := if_pos he
      have ec : (stepSt P st h').cur h' = K.init h' (P.jb h' (st.done h' + 1)) := by
        show upd st.cur h' _ h' = _
        rw [upd_same, if_pos he]
      rw [ed, upd_same] at hd' ⊢
      rw [ec]
      exact ok.init _ _ (hfine h' hh _ hd')
    · have ed : (stepSt P st h').done = st.done := if_neg he
      have ec : (stepSt P st h').cur h' = K.next (st.cur h') (stepOf P.n st.f (K.req (st.cur h'))) := by
        show upd st.cur h' _ h' = _
        rw [upd_same, if_neg he]
      rw [ed, ec]
      exact ok.next _ _ _ _ W.word w0 he
  · have ec : (stepSt P st h).cur h' = st.cur h' := upd_other _ _ e
    have ed : (stepSt P st h).done h' = st.done h' := by
      by_cases he : K.ends (st.cur h) (stepOf P.n st.f (K.req (st.cur h))) = true
      · have ed : (stepSt P st h).done = upd st.done h (st.done h + 1) := if_pos he
        rw [ed]; exact upd_other _ _ e
      · have ed : (stepSt P st h).done = st.done := if_neg he
        rw [ed]
    rw [ed] at hd' ⊢
    rw [ec]
    exact W.wf h' hh' hd'

theorem wr_run {K : Kd} {P : Par} {f : Nat → Int} (ok : K.Ok) (hput : ∀ j s, K.wf j s → 0 ≤ (K.req s).put ∧ (K.req s).put ≤ 18446744073709551615) (hfine : ∀ h, h < P.nh → ∀ j, j < P.jn h → K.fine (P.jb h j)) (hf : ∀ i, i < P.n → 0 ≤ f i ∧ f i ≤ 18446744073709551615) : ∀ m, WR P (runSt P (st0 K P f) m)
  | 0 => ⟨hf, fun h hh hd => ok.init _ _ (hfine h hh _ hd)⟩
  | m + 1 => by
    have W := wr_run ok hput hfine hf m
    rcases run_succ_cases P (st0 K P f) rfl m with ⟨e, _⟩ | ⟨h, ht, hh, hd, hk, e⟩
    · rw [e]; exact W
    · rw [e]; exact W.step ok hput hfine hh hd

/-- An answer that a run has told is still told at its end. -/
theorem told_later {K : Kd} (P : Par) (s : St K) (h0 : s.k = 0) {i m : Nat} (him : i ≤ m) (h' : Nat) : (runSt P s i).done h' ≤ (runSt P s m).done h' ∧ ∀ j, j < (runSt P s i).done h' → (runSt P s m).ans h' j = (runSt P s i).ans h' j := by
  obtain ⟨d, rfl⟩ : ∃ d, m = i + d := ⟨m - i, by omega⟩
  exact stays P s h0 i h' d
end Go.Proofs.Ytchhkoalibapiaa

/-
  A region that draws its order, by an invariant over what has been done so far: whatever the order, one case an operation.
-/
namespace Go.Proofs.Ytchhkoalibapiaa
open Go.RowKit
set_option linter.unusedVariables false
set_option linter.unusedSimpArgs false

theorem cnt_upd {L : Nat → Bool} {i : Nat} (hi : L i = false) : ∀ n, cnt (fun j => !(upd L i true) j) n + (if i < n then 1 else 0) = cnt (fun j => !L j) n
  | 0 => by simp [cnt]
  | n + 1 => by
    have ih := cnt_upd hi n
    simp only [cnt]
    by_cases h : n = i
    · subst h
      simp only [upd_same, Nat.lt_irrefl, if_false, Nat.add_zero] at ih ⊢
      simp [hi, ih]
    · have hu : upd L i true n = L n := upd_other _ _ h
      have : (i < n + 1) = (i < n) := by apply propext; omega
      simp only [this, hu]
      omega

/-- What has been listed, as a function. -/
def lis (listed : Array Bool) : Nat → Bool := fun i => listed.getD i false

theorem lis_set {listed : Array Bool} {i : Nat} (hi : i < listed.size) : lis (listed.setIfInBounds i true) = upd (lis listed) i true := by
  funext j
  by_cases h : j = i
  · subst h; simp [lis, hi]
  · rw [upd_other _ _ h]
    simp [lis, Array.getElem?_setIfInBounds_ne (Ne.symm h)]

section
variable {P : Program} {ops : Array Oper} {Q : Exit → Act → World → Prop} {md : Region.Mode}

theorem wpAny_inv (hg : ∀ (i : Nat) (o : Oper), ops[i]? = some o → o.guard = none) (hback : ∀ (i : Nat) (o : Oper), ops[i]? = some o → ∀ e ∈ o.after, Region.binds md e = true → e.on < i) (I : (Nat → Bool) → Act → World → Prop)
    (hstep : ∀ (L : Nat → Bool) (a : Act) (w : World) (i : Nat) (o : Oper), I L a w → ops[i]? = some o → L i = false → (∀ e ∈ o.after, Region.binds md e = true → L e.on = true) → o.wp P a w (fun a' w' => I (upd L i true) a' w') Q)
    (hend : ∀ (L : Nat → Bool) (a : Act) (w : World), I L a w → (∀ i, i < ops.size → L i = true) → Q .normal a w) :
    ∀ fuel listed a w, listed.size = ops.size → cnt (fun i => !(lis listed) i) ops.size ≤ fuel → I (lis listed) a w → wpAny P md ops Q fuel listed a w := by
  have none_ready : ∀ listed : Array Bool, listed.size = ops.size → Region.ready md ops listed = [] → ∀ i, i < ops.size → lis listed i = true := by
    intro listed hsz hr i
    induction i using Nat.strongRecOn with
    | ind i ih =>
      intro hi
      cases hl : lis listed i with
      | true => rfl
      | false =>
        exfalso
        have hm : i ∈ Region.ready md ops listed := by
          rw [mem_ready]
          refine ⟨?_, ops[i], by simp [hi], fun e he hb => ?_⟩
          · have hlt : i < listed.size := by omega
            simp only [lis] at hl
            simpa [hlt] using hl
          · have hlt := hback i ops[i] (by simp [hi]) e he hb
            exact ih e.on hlt (by omega)
        rw [hr] at hm
        cases hm
  intro fuel
  induction fuel with
  | zero =>
    intro listed a w hsz hc hI
    have hall : ∀ i, i < ops.size → lis listed i = true := fun i hi => by
      have := cnt_zero (g := fun i => !(lis listed) i) (n := ops.size) (by omega) i hi
      simpa using this
    refine ⟨?_, hend _ a w hI hall⟩
    cases hr : Region.ready md ops listed with
    | nil => rfl
    | cons x xs =>
      exfalso
      have hx : x ∈ Region.ready md ops listed := by rw [hr]; simp
      rw [mem_ready] at hx
      obtain ⟨h0, o, ho, _⟩ := hx
      have hlt : x < ops.size := (Array.getElem?_eq_some_iff.1 ho).1
      have := hall x hlt
      have hlt' : x < listed.size := by omega
      simp [lis, hlt'] at this
      simp [hlt'] at h0
      rw [h0] at this
      cases this
  | succ fuel ih =>
    intro listed a w hsz hc hI
    refine ⟨fun hr => hend _ a w hI (none_ready listed hsz hr), fun i hi => ?_⟩
    rw [mem_ready] at hi
    obtain ⟨h0, o, ho, hdep⟩ := hi
    have hlt : i < ops.size := (Array.getElem?_eq_some_iff.1 ho).1
    have hlt' : i < listed.size := by omega
    have hf : lis listed i = false := by simp [hlt'] at h0; simp [lis, hlt', h0]
    have hs := hstep (lis listed) a w i o hI ho hf hdep
    unfold wpOp
    simp only [ho]
    have hw : Region.wanted o (yielded ops a.tmps) = true := by simp [Region.wanted, hg i o ho]
    rw [if_pos hw]
    left
    refine Oper.wp_mono (fun a' w' h => ?_) hs
    refine ih _ a' w' (by simpa using hsz) ?_ (by rw [lis_set hlt']; exact h)
    rw [lis_set hlt']
    have := cnt_upd hf ops.size
    rw [if_pos hlt] at this
    omega

theorem region_inv {id : Nat} {a : Act} {w : World} (hm : P.follows .mixedOrders = true) (hg : ∀ (i : Nat) (o : Oper), ops[i]? = some o → o.guard = none) (hback : ∀ (i : Nat) (o : Oper), ops[i]? = some o → ∀ e ∈ o.after, Region.binds .any e = true → e.on < i) (I : (Nat → Bool) → Act → World → Prop)
    (hstep : ∀ (L : Nat → Bool) (a : Act) (w : World) (i : Nat) (o : Oper), I L a w → ops[i]? = some o → L i = false → (∀ e ∈ o.after, Region.binds .any e = true → L e.on = true) → o.wp P a w (fun a' w' => I (upd L i true) a' w') Q)
    (hend : ∀ (L : Nat → Bool) (a : Act) (w : World), I L a w → (∀ i, i < ops.size → L i = true) → Q .normal a w)
    (h0 : I (fun _ => false) a { w with drawn := w.drawn + 1 }) : (Code.region id ops true).wp P Q a w := by
  refine wp_region_any hm (wpAny_inv hg hback I hstep hend _ _ a _ (by simp) ?_ ?_)
  · exact cnt_le _ _
  · have : lis (Array.replicate ops.size false) = fun _ => false := by
      funext i
      simp [lis, Array.getElem?_replicate]
      split <;> rfl
    rw [this]
    exact h0
end
end Go.Proofs.Ytchhkoalibapiaa

/-
  Words copied by append into a row of the call's own.
-/
namespace Go.Proofs.Ytchhkoalibapiaa
open Go.RowKit
set_option linter.unusedVariables false
set_option linter.unusedSimpArgs false

/-- 'append(v, xs...)', v the call's own, xs whatever slice: nil, empty or not. -/
theorem wpList_append_opt {P : Program} {w : World} {ops : Array Oper} {rest : List Oper} {o : Oper} {a : Act} {Q : Exit → Act → World → Prop} (hgd : o.guard = none) (s x : Operand) (t : TypeId)
    (ho : o.op = .call { callee := .builtin .append, args := #[s, x], argTypes := #[t, t] })
    (base : Nat) (e : TypeId) (i : TypeInfo) (z : Value) (size bytes : Nat) (ht : P.underlying t = some (.slice e)) (hi : P.info? e = some i) (hz : i.zero = some z)
    (hsize : i.size = size) (hby : i.bytes = bytes) (hzs : z.cells.size = size) (hsz : 0 < size)
    (v : Value) (n : Nat) (xs : List Value) (hs : a.eval s = v) (hown : w.ownsRow base e size v n xs)
    (ao : Option Addr) (m c : Nat) (news : List Value) (hx : a.eval x = .slice ao m c) (hnil : ao = none → m = 0 ∧ c = 0) (hl : news.length = m * size) (hnews : ∀ ad, ao = some ad → ∀ j u, news[j]? = some u → w.cell? (ad.add j) = some u) (h1 : ∀ u ∈ news, u.oneCell' = true)
    (h63 : n + m ≤ maxLen) (hbytes : (n + m) * bytes ≤ 140737488355328) (hbase : base ≤ w.heap.size)
    (h : ∀ v' w', w'.ownsRow base e size v' (n + m) (xs ++ news) → w.grownBy w' v.ownBlock → ((v' = .slice none 0 0) → v = .slice none 0 0) → wpList P ops Q rest (a.put o.dst v') w') : wpList P ops Q (o :: rest) a w := by
  cases ao with
  | none =>
    obtain ⟨rfl, rfl⟩ := hnil rfl
    have hn : news = [] := by simpa using hl
    subst hn
    refine wpList_append_own_none hgd s x t ho base e i size ht hi v n xs hs hown hx (h v w (by simpa using hown) ⟨rfl, rfl, rfl, Nat.le_refl _, fun _ _ _ => rfl⟩ (fun e => e))
  | some ad =>
    exact wpList_append_own w hgd s x t ho base e i z size bytes ht hi hz hsize hby hzs hsz v n xs hs hown ad m c news hx hl (hnews ad rfl) h1 h63 hbytes hbase fun v' w' h2 h3 h4 => h v' w' h2 h3 (fun e => (h4.1 e).1)

theorem info46e : ∃ i, Try.prog.info? 55 = some i ∧ i.zero = some (.int .u64 0) ∧ i.size = 1 ∧ i.bytes = 8 := by
  have h : (Try.prog.info? 55).map (fun i => (i.zero, i.size, i.bytes)) = some (some (.int .u64 0), 1, 8) := by kernel_rfl
  cases hp : Try.prog.info? 55 with
  | none => rw [hp] at h; cases h
  | some i => rw [hp] at h; simp at h; exact ⟨i, rfl, h.1, h.2.1, h.2.2⟩

/-- A row of words as cells. -/
def wordCells (n : Nat) (f : Nat → Int) : List Value := (List.range n).map fun i => Value.int .u64 (f i)
theorem wordCells_length (n : Nat) (f : Nat → Int) : (wordCells n f).length = n := by simp [wordCells]
theorem wordCells_one (n : Nat) (f : Nat → Int) : ∀ u ∈ wordCells n f, u.oneCell' = true := by intro u hu; obtain ⟨i, _, rfl⟩ := List.mem_map.1 hu; rfl

theorem Sees.news {w : World} {B : Nat} {ao : Option Addr} {n : Nat} {f : Nat → Int} (h : Sees w B ao n f) : ∀ ad, ao = some ad → ∀ j u, (wordCells n f)[j]? = some u → w.cell? (ad.add j) = some u := by
  intro ad hao j u hu
  have hj : j < n := by have := (List.getElem?_eq_some_iff.1 hu).1; simpa [wordCells] using this
  obtain ⟨b, off, he, hbl, hcc⟩ := h j hj
  rw [hao] at he
  cases he
  have : u = .int .u64 (f j) := by simp [wordCells, hj] at hu; exact hu.symm
  subst this
  rw [Go.WideShapes.add_plain]
  exact hcc
theorem Sees.alloc {w : World} {ao : Option Addr} {n : Nat} {f : Nat → Int} (h : Sees w w.heap.size ao n f) (o : Obj) : Sees (w.alloc o) w.heap.size ao n f := h.below ((Below.refl _ w).alloc (Nat.le_refl _) o) (Nat.le_refl _)

/-- What 'append' leaves, where it is not nil. -/
theorem owned_row {w : World} {base n : Nat} {v : Value} {f : Nat → Int} (h : w.ownsRow base 55 1 v n (wordCells n f)) (hv : ¬ v = .slice none 0 0) (hf : ∀ i, i < n → 0 ≤ f i ∧ f i ≤ 18446744073709551615) :
    ∃ g cap, v = .slice (some ⟨g, 0, none⟩) n cap ∧ IsRow w g n cap f ∧ base ≤ g := by
  obtain ⟨hl, ⟨rfl, _⟩ | ⟨g, cap, cur, rfl, hb, hg, hc, hm, hsz, ht⟩⟩ := h
  · exact absurd rfl hv
  · exact ⟨g, cap, rfl, IsRow.of_owns (base := base) ⟨hl, .inr ⟨g, cap, cur, rfl, hb, hg, hc, hm, hsz, ht⟩⟩ hf, hb⟩

end Go.Proofs.Ytchhkoalibapiaa

/-
  The reference's run ahead of its first step: middenref03.Begin, for every list of words and of hands: five rows made and one copied, in whatever order.
-/
namespace Go.Proofs.Ytchhkoalibapiaa
open Go.RowKit
set_option linter.unusedVariables false
set_option linter.unusedSimpArgs false
set_option maxRecDepth 20000

structure Shp where
  a : Int
  b : Int
  c : Int
  d : Int
  e : Int
  f : Int
def Shp.val (s : Shp) : Value := .agg #[.int .i64 s.a, .int .i64 s.b, .int .i64 s.c, .int .i64 s.d, .int .i64 s.e, .int .i64 s.f]

/-- The reference's run, by value. -/
def runCells (s : Shp) (vw vh vt vu vb vk vs va : Value) (la : Int) : List Value :=
  [.int .i64 s.a, .int .i64 s.b, .int .i64 s.c, .int .i64 s.d, .int .i64 s.e, .int .i64 s.f, vw, vh, vt, vu, vb, vk, vs, va, .int .i64 la]
def runVal (s : Shp) (vw vh vt vu vb vk vs va : Value) (la : Int) : Value := .agg (runCells s vw vh vt vu vb vk vs va la).toArray

section
variable {P : Program} {o : Oper} {a : Act} {w : World} {K : Act → World → Prop} {Q : Exit → Act → World → Prop}
theorem wp_value {v : Value} {w' : World} (h : (execOp a.eval o).run P w = .ok (.value v) w') (hk : K (a.put o.dst v) w') : o.wp P a w K Q := by
  unfold Oper.wp; rw [h]; exact hk
theorem wp_move (x : Operand) (ho : o.op = .move x) (h : K (a.put o.dst (a.eval x)) w) : o.wp P a w K Q :=
  wp_value (w' := w) (v := a.eval x) (by simp [execOp, ho]) h
theorem wp_make {t e : TypeId} {zc : Array Value} {size bytes n : Nat} (x : Operand) (ho : o.op = .makeSlice t x x) (hx : a.eval x = .int .i64 n) (ht : P.underlying t = some (.slice e)) (hinfo : (P.info? e).map (fun i => (i.zero.map Value.cells, i.size, i.bytes)) = some (some zc, size, bytes))
    (hbytes : bytes * n ≤ 281474976710656) (h63 : n ≤ 9223372036854775807)
    (h : K (a.put o.dst (.slice (some ⟨w.heap.size, 0, none⟩) n n)) (w.alloc (.cells (madeCells zc (n * size)) e))) : o.wp P a w K Q :=
  wp_value (by simp [execOp, ho, hx, run_make_z t e zc size bytes ht hinfo n hbytes h63 w, Result.andThen]) h
theorem wp_lit0 {t e : TypeId} {zc : Array Value} {size bytes : Nat} (ho : o.op = .buildSlice t 0 #[]) (ht : P.underlying t = some (.slice e)) (hinfo : (P.info? e).map (fun i => (i.zero.map Value.cells, i.size, i.bytes)) = some (some zc, size, bytes))
    (h : K (a.put o.dst (.slice (some ⟨w.heap.size, 0, none⟩) 0 0)) (w.alloc (.cells #[] e))) : o.wp P a w K Q := by
  obtain ⟨i, hi, hzz⟩ := Option.map_eq_some_iff.1 hinfo
  refine wp_value (w' := w.alloc (.cells #[] e)) (v := .slice (some ⟨w.heap.size, 0, none⟩) 0 0) ?_ h
  simp only [Prod.mk.injEq] at hzz
  obtain ⟨hz, hs, hb⟩ := hzz
  obtain ⟨z, hz, hzc⟩ := Option.map_eq_some_iff.1 hz
  simp [execOp, ho, go_sem, run_underlying ht w, sizeOf, typeInfo, hi, Result.andThen, newObj]
  rfl
theorem wp_append_lit {t e : TypeId} {i : TypeInfo} {z : Value} {size bytes base n : Nat} (s x : Operand) (ho : o.op = Op.call { callee := Callee.builtin Builtin.append, args := #[s, x], argTypes := #[t, t] })
    (ht : P.underlying t = some (.slice e)) (hi : P.info? e = some i) (hz : i.zero = some z) (hsize : i.size = size) (hby : i.bytes = bytes) (hzs : z.cells.size = size) (hsz : 0 < size)
    (v : Value) (hs : a.eval s = v) (hown : w.ownsRow base e size v 0 []) (ao : Option Addr) (c : Nat) (news : List Value) (hx : a.eval x = .slice ao n c) (hnil : ao = none → n = 0 ∧ c = 0) (hl : news.length = n * size)
    (hnews : ∀ ad, ao = some ad → ∀ j u, news[j]? = some u → w.cell? (ad.add j) = some u) (h1 : ∀ u ∈ news, u.oneCell' = true) (h63 : n ≤ maxLen) (hbytes : n * bytes ≤ 140737488355328) (hbase : base ≤ w.heap.size)
    (h : ∀ v' w', w'.ownsRow base e size v' n news → w.grownBy w' v.ownBlock → (v' = .slice none 0 0 → v = .slice none 0 0) → (v'.ownBlock = v.ownBlock ∨ v'.ownBlock = some w.heap.size) → K (a.put o.dst v') w') : o.wp P a w K Q := by
  cases ao with
  | none =>
    obtain ⟨rfl, rfl⟩ := hnil rfl
    have hn : news = [] := by simpa using hl
    subst hn
    have hrun := run_append_owned_none (P := P) (w := w) base t o.type e i size ht hi v 0 [] hown
    refine wp_value (w' := w) (v := v) ?_ (h v w hown (grown_refl _ _) (fun e => e) (.inl rfl))
    simp [execOp, ho, resolve, invoke, builtin, hs, hx, hrun, Result.andThen]
  | some ad =>
    obtain ⟨v', w', hr, h2, h3, h4, h5⟩ := run_append_own_at (P := P) w base t o.type e i z size bytes ht hi hz hsize hby hzs hsz v 0 [] hown ad n c news hl (hnews ad rfl) h1 (by omega) (by simpa using hbytes) hbase
    refine wp_value (w' := w') (v := v') ?_ (h v' w' (by simpa using h2) h3 (fun e => (h4.1 e).1) h5)
    simp [execOp, ho, resolve, invoke, builtin, hs, hx, hr, Result.andThen]
end

theorem put_eval {a : Act} {d : Nat} {v : Value} (h : d < a.tmps.size) : (a.put (some d) v).eval (.tmp d) = v := by
  simp [Act.put, Act.eval, h]
theorem put_other {a : Act} {d k : Nat} {v : Value} (h : k ≠ d) : (a.put (some d) v).eval (.tmp k) = a.eval (.tmp k) :=
  Act.eval_put (fun d' hd he => by cases hd; cases he; exact h rfl)
theorem put_size {a : Act} {d : Option Nat} {v : Value} : (a.put d v).tmps.size = a.tmps.size := by
  cases d <;> simp [Act.put]
theorem put_defs {a : Act} {d : Option Nat} {v : Value} : (a.put d v).defers = a.defers := by
  cases d <;> rfl

theorem madeCells_get (zc : Array Value) (n i : Nat) (hi : i < n) : (madeCells zc n)[i]? = some (zc[i % zc.size]!) := by
  simp [madeCells, hi]
theorem World.rowIs_alloc' (w : World) (vs : Array Value) (t : TypeId) (n : Nat) (hn : vs.size = n) {f : Nat → Value} (hc : ∀ i, i < n → vs[i]? = some (f i)) : (w.alloc (.cells vs t)).rowIs w.heap.size t n f := by
  subst hn
  exact World.rowIs_alloc w vs t f hc
theorem rowIs_madeN (w : World) (zc : Array Value) (n : Nat) (t : TypeId) : (w.alloc (.cells (madeCells zc n) t)).rowIs w.heap.size t n (fun i => zc[i % zc.size]!) :=
  World.rowIs_alloc' w (madeCells zc n) t n (size_madeCells _ _) (fun i hi => madeCells_get zc n i hi)

theorem touch_setCells (b : Nat) : ∀ (vs : List Value) (o : Nat) (w : World), Touch w (w.setCells b o vs) (fun k => k = b)
  | [], _, w => Touch.refl w _
  | v :: r, o, w => by
    rw [World.setCells]
    exact (Touch.setCell (S := fun k => k = b) (Touch.refl w _) ⟨b, o, none⟩ (.inl rfl) v).trans (touch_setCells b r (o + 1) _)

/-! Begin's region. -/
namespace Beg
/-- Which operation moves what into which slot. -/
def mv (vw vh vn vs : Value) : Nat → Option (Nat × Value)
  | 0 => some (10, vs)
  | 2 => some (12, vw)
  | 4 => some (14, vh)
  | 5 => some (15, vn)
  | 7 => some (17, vn)
  | 9 => some (19, vn)
  | 11 => some (21, vn)
  | 13 => some (23, vn)
  | _ => none
def zTask : Array Value := #[.int .i64 0, .int .i64 0, .int .i64 0, .int .i64 0, .int .i64 0, .int .i64 0, .int .i64 0, .int .i64 0, .int .i64 0, .int .i64 0, .int .i64 0, .int .u64 0, .int .i64 0, .int .u64 0, .int .u64 0, .int .u64 0, .int .u64 0, .int .u64 0, .int .u64 0, .int .u64 0, .int .u64 0, .slice none 0 0, .bool false, .int .u64 0, .int .u64 0, .int .u64 0, .int .u64 0, .int .u64 0]
def zKept : Array Value := #[.int .u64 0, .int .u64 0, .int .u64 0, .int .u64 0]
/-- Which operation makes which row, into which slot. -/
def mkr (n : Nat) : Rl → Option (Nat × Nat × Row)
  | .tasks => some (6, 16, ⟨84, n * 28, fun i => zTask[i % zTask.size]!⟩)
  | .going => some (8, 18, ⟨4, n * 1, fun i => #[Value.bool false][i % #[Value.bool false].size]!⟩)
  | .run => some (10, 20, ⟨3, n * 1, fun i => #[Value.int .i64 0][i % #[Value.int .i64 0].size]!⟩)
  | .mem => some (12, 22, ⟨82, n * 4, fun i => zKept[i % zKept.size]!⟩)
  | .answers => some (14, 24, ⟨63, n * 1, fun i => #[Value.slice none 0 0][i % #[Value.slice none 0 0].size]!⟩)
  | _ => none
theorem mk_inj {n : Nat} {r r' : Rl} {k d k' d' : Nat} {x x' : Row} (h : mkr n r = some (k, d, x)) (h' : mkr n r' = some (k', d', x')) (hne : r' ≠ r) : k' ≠ k ∧ d' ≠ d := by
  cases r <;> cases r' <;> simp [mkr] at h h' hne <;> omega
theorem mk_words {n : Nat} {r : Rl} {y : Nat × Nat × Row} (h : mkr n r = some y) : r ≠ .words := by rintro rfl; cases h
theorem mk_steps {n : Nat} {r : Rl} {y : Nat × Nat × Row} (h : mkr n r = some y) : r ≠ .steps := by rintro rfl; cases h
theorem mk_arow {n h' : Nat} {r : Rl} {y : Nat × Nat × Row} (h : mkr n r = some y) : r ≠ .arow h' := by rintro rfl; cases h
theorem mk_key {n : Nat} {r : Rl} {k d : Nat} {x : Row} (h : mkr n r = some (k, d, x)) : (k = 6 ∧ d = 16) ∨ (k = 8 ∧ d = 18) ∨ (k = 10 ∧ d = 20) ∨ (k = 12 ∧ d = 22) ∨ (k = 14 ∧ d = 24) := by
  cases r <;> simp [mkr] at h <;> omega
theorem mv_key {vw vh vn vs v : Value} {k d : Nat} (h : mv vw vh vn vs k = some (d, v)) : (k = 0 ∧ d = 10) ∨ (k = 2 ∧ d = 12) ∨ (k = 4 ∧ d = 14) ∨ (k = 5 ∧ d = 15) ∨ (k = 7 ∧ d = 17) ∨ (k = 9 ∧ d = 19) ∨ (k = 11 ∧ d = 21) ∨ (k = 13 ∧ d = 23) := by
  unfold mv at h
  split at h <;> simp at h <;> omega
theorem mv_one {vw vh vn vs v v' : Value} {k k' d d' : Nat} (h : mv vw vh vn vs k = some (d, v)) (h' : mv vw vh vn vs k' = some (d', v')) (hne : k' ≠ k) : d' ≠ d := by
  have := mv_key h
  have := mv_key h'
  omega

def sl (b n : Nat) : Value := .slice (some ⟨b, 0, none⟩) n n
def cellsAt (sh : Shp) (vw vh : Value) (blk : Rl → Nat) (nh : Nat) : List Value := runCells sh vw vh (sl (blk .tasks) nh) (sl (blk .going) nh) (sl (blk .run) nh) (sl (blk .mem) nh) (.slice none 0 0) (sl (blk .answers) nh) (-1)

/-- What is known of the words' row. -/
structure Wd (N : Nat) (L : Nat → Bool) (a : Act) (blk : Rl → Nat) (c : Rl → Option Row) (n : Nat) (f : Nat → Int) : Prop where
  none : L 1 = false → c .words = .none ∧ L 3 = false
  lit : L 1 = true → L 3 = false → a.eval (.tmp 11) = .slice (some ⟨blk .words, 0, .none⟩) 0 0 ∧ N ≤ blk .words ∧ ∃ F, c .words = some ⟨55, 0, F⟩
  row : L 3 = true → ∃ cap F, a.eval (.tmp 13) = .slice (some ⟨blk .words, 0, .none⟩) n cap ∧ c .words = some ⟨55, cap, F⟩ ∧ n ≤ cap ∧ cap ≤ maxLen ∧ ∀ i, i < n → F i = .int .u64 (f i)

structure In (w0 : World) (B : Nat) (sh : Shp) (vw vh : Value) (n nh : Nat) (f : Nat → Int) (L : Nat → Bool) (a : Act) (w : World) (blk : Rl → Nat) (c : Rl → Option Row) : Prop where
  sz : a.tmps.size = 26
  df : a.defers = []
  s1 : a.eval (.tmp 1) = vw
  s2 : a.eval (.tmp 2) = vh
  s3 : a.eval (.tmp 3) = .pointer (some ⟨B, 0, none⟩)
  s6 : a.eval (.tmp 6) = .pointer (some ⟨B + 1, 0, none⟩)
  s7 : a.eval (.tmp 7) = .int .i64 nh
  tch : Touch w0 w (fun k => k = B + 1)
  th : w.there (B + 1) 0 15
  mvs : ∀ k d v, mv vw vh (.int .i64 nh) sh.val k = some (d, v) → L k = true → a.eval (.tmp d) = v
  has : Has w (B + 2) blk c
  mks : ∀ r k d x, mkr nh r = some (k, d, x) → (L k = true → a.eval (.tmp d) = sl (blk r) nh ∧ c r = some x) ∧ (L k = false → c r = none)
  rest : c .steps = none ∧ ∀ h, c (.arow h) = none
  wd : Wd w0.heap.size L a blk c n f
  bld : L 15 = true → (L 3 = true ∧ ∀ r k d x, mkr nh r = some (k, d, x) → L k = true) ∧ a.eval (.tmp 25) = .agg (cellsAt sh (a.eval (.tmp 13)) vh blk nh).toArray
  fin : L 16 = true → L 15 = true ∧ w.rangeAt (B + 1) 0 (cellsAt sh (a.eval (.tmp 13)) vh blk nh)

variable {w0 w : World} {B : Nat} {sh : Shp} {vw vh : Value} {n nh : Nat} {f : Nat → Int} {L : Nat → Bool} {a : Act} {blk : Rl → Nat} {c : Rl → Option Row}

theorem In.mvStep (h : In w0 B sh vw vh n nh f L a w blk c) {k d : Nat} {v : Value} (hk : mv vw vh (.int .i64 nh) sh.val k = some (d, v)) : In w0 B sh vw vh n nh f (upd L k true) (a.put (some d) v) w blk c := by
  have hkk := mv_key hk
  have e : ∀ j, j ≠ d → (a.put (some d) v).eval (.tmp j) = a.eval (.tmp j) := fun j hj => put_other hj
  have u : ∀ j, j ≠ k → upd L k true j = L j := fun j hj => upd_other _ _ hj
  have u1 := u 1 (by omega)
  have u3 := u 3 (by omega)
  have u15 := u 15 (by omega)
  have u16 := u 16 (by omega)
  refine ⟨by rw [put_size]; exact h.sz, by rw [put_defs]; exact h.df, by rw [e _ (by omega)]; exact h.s1, by rw [e _ (by omega)]; exact h.s2, by rw [e _ (by omega)]; exact h.s3, by rw [e _ (by omega)]; exact h.s6, by rw [e _ (by omega)]; exact h.s7,
    h.tch, h.th, fun k' d' v' hk' hL => ?_, h.has, fun r k' d' x hr => ?_, h.rest, ⟨?_, ?_, ?_⟩, ?_, ?_⟩
  · by_cases hkk' : k' = k
    · subst hkk'
      rw [hk] at hk'
      cases hk'
      exact put_eval (by have := h.sz; omega)
    · rw [u k' hkk'] at hL
      rw [e _ (mv_one hk hk' hkk')]
      exact h.mvs k' d' v' hk' hL
  · have hrk := mk_key hr
    rw [u k' (by omega), e d' (by omega)]
    exact h.mks r k' d' x hr
  · rw [u1, u3]; exact h.wd.none
  · rw [u1, u3, e _ (by omega)]; exact h.wd.lit
  · rw [u3, e _ (by omega)]; exact h.wd.row
  · rw [u15, u3, e _ (by omega), e _ (by omega)]
    intro hL
    obtain ⟨⟨h1, h2⟩, h3⟩ := h.bld hL
    exact ⟨⟨h1, fun r k' d' x hr => by rw [u k' (by have := mk_key hr; omega)]; exact h2 r k' d' x hr⟩, h3⟩
  · rw [u15, u16, e _ (by omega)]; exact h.fin

theorem In.mkStep (h : In w0 B sh vw vh n nh f L a w blk c) (hB : B + 2 ≤ w0.heap.size) {r : Rl} {k d : Nat} {x : Row} (hk : mkr nh r = some (k, d, x)) (hL : L k = false) {w' : World} (hw : w'.rowIs w.heap.size x.t x.n x.f) (ht : Touch w w' (fun _ => False)) :
    In w0 B sh vw vh n nh f (upd L k true) (a.put (some d) (sl w.heap.size nh)) w' (upd blk r w.heap.size) (upd c r (some x)) := by
  have hkk := mk_key hk
  have e : ∀ j, j ≠ d → (a.put (some d) (sl w.heap.size nh)).eval (.tmp j) = a.eval (.tmp j) := fun j hj => put_other hj
  have u : ∀ j, j ≠ k → upd L k true j = L j := fun j hj => upd_other _ _ hj
  have u1 := u 1 (by omega)
  have u3 := u 3 (by omega)
  have u15 := u 15 (by omega)
  have u16 := u 16 (by omega)
  have hsz := h.tch.size
  have n15 : ¬ L 15 = true := fun h15 => by rw [((h.bld h15).1.2 r k d x hk)] at hL; cases hL
  have hrw := mk_words hk
  refine ⟨by rw [put_size]; exact h.sz, by rw [put_defs]; exact h.df, by rw [e _ (by omega)]; exact h.s1, by rw [e _ (by omega)]; exact h.s2, by rw [e _ (by omega)]; exact h.s3, by rw [e _ (by omega)]; exact h.s6, by rw [e _ (by omega)]; exact h.s7,
    h.tch.trans' ht (fun _ _ h => h.elim), ?_, fun k' d' v' hk' hL' => ?_, h.has.add r w.heap.size x (by omega) (Nat.le_refl _) ht (fun _ _ _ _ => id) hw, fun r' k' d' x' hr' => ?_, ⟨by rw [upd_other _ _ (mk_steps hk).symm]; exact h.rest.1, fun hh => by rw [upd_other _ _ (mk_arow hk).symm]; exact h.rest.2 hh⟩, ⟨?_, ?_, ?_⟩, ?_, ?_⟩
  · intro j hj
    obtain ⟨h1, h2⟩ := h.th j hj
    obtain ⟨y, hy⟩ := Option.isSome_iff_exists.1 h1
    have hlt := World.block_lt_of_cell? w _ hy
    have hbk := ht.block (B + 1) hlt id
    exact ⟨by rw [World.cell?_of_block (a := ⟨B + 1, 0 + j, none⟩) hbk]; exact h1, by rw [World.frozen?_of_block (a := ⟨B + 1, 0 + j, none⟩) hbk]; exact h2⟩
  · have hmk := mv_key hk'
    rw [u k' (by omega)] at hL'
    rw [e d' (by omega)]
    exact h.mvs k' d' v' hk' hL'
  · by_cases hrr : r' = r
    · subst hrr
      rw [hk] at hr'
      cases hr'
      exact ⟨fun _ => ⟨by rw [put_eval (by have := h.sz; omega), upd_same], by rw [upd_same]⟩, fun hf => by rw [upd_same] at hf; cases hf⟩
    · obtain ⟨hk2, hd2⟩ := mk_inj hk hr' hrr
      rw [u k' hk2, e d' hd2, upd_other _ _ hrr, upd_other _ _ hrr]
      exact h.mks r' k' d' x' hr'
  · rw [u1, u3, upd_other _ _ hrw.symm]; exact h.wd.none
  · rw [u1, u3, e _ (by omega), upd_other _ _ hrw.symm, upd_other _ _ hrw.symm]; exact h.wd.lit
  · rw [u3, e _ (by omega), upd_other _ _ hrw.symm, upd_other _ _ hrw.symm]; exact h.wd.row
  · rw [u15]; intro hc; exact absurd hc n15
  · rw [u16]; intro hc; exact absurd (h.fin hc).1 n15
theorem In.litStep (h : In w0 B sh vw vh n nh f L a w blk c) (hB : B + 2 ≤ w0.heap.size) (hL : L 1 = false) :
    In w0 B sh vw vh n nh f (upd L 1 true) (a.put (some 11) (.slice (some ⟨w.heap.size, 0, none⟩) 0 0)) (w.alloc (.cells #[] 55)) (upd blk .words w.heap.size) (upd c .words (some ⟨55, 0, fun _ => default⟩)) := by
  have e : ∀ j : Nat, j ≠ 11 → (a.put (some 11) (.slice (some ⟨w.heap.size, 0, none⟩) 0 0)).eval (.tmp j) = a.eval (.tmp j) := fun j hj => put_other hj
  have u : ∀ j, j ≠ 1 → upd L 1 true j = L j := fun j hj => upd_other _ _ hj
  have hsz := h.tch.size
  obtain ⟨hcw, h3⟩ := h.wd.none hL
  have n15 : ¬ L 15 = true := fun h15 => by rw [(h.bld h15).1.1] at h3; cases h3
  have ht : Touch w (w.alloc (.cells #[] 55)) (fun _ => False) := (Touch.refl w _).alloc _
  refine ⟨by rw [put_size]; exact h.sz, by rw [put_defs]; exact h.df, by rw [e _ (by omega)]; exact h.s1, by rw [e _ (by omega)]; exact h.s2, by rw [e _ (by omega)]; exact h.s3, by rw [e _ (by omega)]; exact h.s6, by rw [e _ (by omega)]; exact h.s7,
    h.tch.alloc _, World.there_alloc h.th _, fun k' d' v' hk' hL' => ?_, h.has.add .words w.heap.size ⟨55, 0, fun _ => default⟩ (by omega) (Nat.le_refl _) ht (fun _ _ _ _ => id) (World.rowIs_alloc' w #[] _ 0 rfl (fun i hi => by omega)), fun r' k' d' x' hr' => ?_, ⟨by rw [upd_other _ _ (by simp)]; exact h.rest.1, fun hh => by rw [upd_other _ _ (by simp)]; exact h.rest.2 hh⟩, ⟨?_, ?_, ?_⟩, ?_, ?_⟩
  · have hmk := mv_key hk'
    rw [u k' (by omega)] at hL'
    rw [e d' (by omega)]
    exact h.mvs k' d' v' hk' hL'
  · have hmk := mk_key hr'
    rw [u k' (by omega), e d' (by omega), upd_other _ _ (mk_words hr'), upd_other _ _ (mk_words hr')]
    exact h.mks r' k' d' x' hr'
  · intro hc; rw [upd_same] at hc; cases hc
  · intro _ _
    exact ⟨by rw [put_eval (by have := h.sz; omega), upd_same], by rw [upd_same]; exact hsz, _, upd_same _ _ _⟩
  · rw [u 3 (by omega)]; intro hc; rw [h3] at hc; cases hc
  · rw [u 15 (by omega)]; intro hc; exact absurd hc n15
  · rw [u 16 (by omega)]; intro hc; exact absurd (h.fin hc).1 n15

theorem In.appStep (h : In w0 B sh vw vh n nh f L a w blk c) (hB : B + 2 ≤ w0.heap.size) (hL1 : L 1 = true) (hL : L 3 = false) (hf : ∀ i, i < n → 0 ≤ f i ∧ f i ≤ 18446744073709551615) {v' : Value} {w' : World}
    (hown : w'.ownsRow (B + 2) 55 1 v' n (wordCells n f)) (hg : w.grownBy w' (some (blk .words))) (hnn : ¬ v' = .slice none 0 0) (hat : v'.ownBlock = some (blk .words) ∨ v'.ownBlock = some w.heap.size) :
    ∃ g cap F, In w0 B sh vw vh n nh f (upd L 3 true) (a.put (some 13) v') w' (upd blk .words g) (upd c .words (some ⟨55, cap, F⟩)) := by
  obtain ⟨g, cap, rfl, ⟨hnc, hcm, ⟨F, hrow, hF⟩, _⟩, hbg⟩ := owned_row hown hnn hf
  obtain ⟨e11, hnw, F0, ec⟩ := h.wd.lit hL1 hL
  refine ⟨g, cap, F, ?_⟩
  have e : ∀ j : Nat, j ≠ 13 → (a.put (some 13) (.slice (some ⟨g, 0, none⟩) n cap)).eval (.tmp j) = a.eval (.tmp j) := fun j hj => put_other hj
  have u : ∀ j, j ≠ 3 → upd L 3 true j = L j := fun j hj => upd_other _ _ hj
  have hsz := h.tch.size
  have n15 : ¬ L 15 = true := fun h15 => by rw [(h.bld h15).1.1] at hL; cases hL
  have hbw := h.has.new _ _ ec
  have hlw := h.has.lt ec
  simp only [Value.ownBlock, Option.some.injEq] at hat
  refine ⟨by rw [put_size]; exact h.sz, by rw [put_defs]; exact h.df, by rw [e _ (by omega)]; exact h.s1, by rw [e _ (by omega)]; exact h.s2, by rw [e _ (by omega)]; exact h.s3, by rw [e _ (by omega)]; exact h.s6, by rw [e _ (by omega)]; exact h.s7,
    ?_, ?_, fun k' d' v' hk' hL' => ?_, h.has.move .words g ⟨55, cap, F⟩ (Touch.of_grown hg) (fun r' x' hne e' he => h.has.ne e' ec hne (by simpa using he)) (fun r' x' hne e' he => ?_) hrow hbg, fun r' k' d' x' hr' => ?_, ⟨by rw [upd_other _ _ (by simp)]; exact h.rest.1, fun hh => by rw [upd_other _ _ (by simp)]; exact h.rest.2 hh⟩, ⟨?_, ?_, ?_⟩, ?_, ?_⟩
  · refine ⟨hg.os.trans h.tch.os, hg.tape.trans h.tch.tape, hg.output.trans h.tch.output, Nat.le_trans h.tch.size hg.size, fun k hk hn => ?_⟩
    by_cases hkw : k = blk .words
    · -- the words' block is not one of w0's that may be named: it was made since, or is the row itself
      subst hkw
      exact absurd hk (by omega)
    · exact (hg.block k (by omega) (by simpa using hkw)).trans (h.tch.block k hk hn)
  · intro j hj
    obtain ⟨h1, h2⟩ := h.th j hj
    obtain ⟨y, hy⟩ := Option.isSome_iff_exists.1 h1
    have hlt := World.block_lt_of_cell? w _ hy
    have hbk := hg.block (B + 1) hlt (by simp; omega)
    exact ⟨by rw [World.cell?_of_block (a := ⟨B + 1, 0 + j, none⟩) hbk]; exact h1, by rw [World.frozen?_of_block (a := ⟨B + 1, 0 + j, none⟩) hbk]; exact h2⟩
  · have hmk := mv_key hk'
    rw [u k' (by omega)] at hL'
    rw [e d' (by omega)]
    exact h.mvs k' d' v' hk' hL'
  · rcases hat with hat | hat
    · exact h.has.ne e' ec hne (by omega)
    · have := h.has.lt e'; omega
  · have hmk := mk_key hr'
    rw [u k' (by omega), e d' (by omega), upd_other _ _ (mk_words hr'), upd_other _ _ (mk_words hr')]
    exact h.mks r' k' d' x' hr'
  · rw [u 1 (by omega), hL1]; intro hc; cases hc
  · intro _ hc; rw [upd_same] at hc; cases hc
  · intro _
    exact ⟨cap, F, by rw [put_eval (by have := h.sz; omega), upd_same], upd_same _ _ _, hnc, hcm, hF⟩
  · rw [u 15 (by omega)]; intro hc; exact absurd hc n15
  · rw [u 16 (by omega)]; intro hc; exact absurd (h.fin hc).1 n15

theorem In.bldStep (h : In w0 B sh vw vh n nh f L a w blk c) (hL3 : L 3 = true) (hm : ∀ r k d x, mkr nh r = some (k, d, x) → L k = true) (h16 : L 15 = false) :
    In w0 B sh vw vh n nh f (upd L 15 true) (a.put (some 25) (.agg (cellsAt sh (a.eval (.tmp 13)) vh blk nh).toArray)) w blk c := by
  have e : ∀ j : Nat, j ≠ 25 → (a.put (some 25) (.agg (cellsAt sh (a.eval (.tmp 13)) vh blk nh).toArray)).eval (.tmp j) = a.eval (.tmp j) := fun j hj => put_other hj
  have u : ∀ j, j ≠ 15 → upd L 15 true j = L j := fun j hj => upd_other _ _ hj
  refine ⟨by rw [put_size]; exact h.sz, by rw [put_defs]; exact h.df, by rw [e _ (by omega)]; exact h.s1, by rw [e _ (by omega)]; exact h.s2, by rw [e _ (by omega)]; exact h.s3, by rw [e _ (by omega)]; exact h.s6, by rw [e _ (by omega)]; exact h.s7,
    h.tch, h.th, fun k' d' v' hk' hL' => ?_, h.has, fun r' k' d' x' hr' => ?_, h.rest, ⟨?_, ?_, ?_⟩, ?_, ?_⟩
  · have hmk := mv_key hk'
    rw [u k' (by omega)] at hL'
    rw [e d' (by omega)]
    exact h.mvs k' d' v' hk' hL'
  · have hmk := mk_key hr'
    rw [u k' (by omega), e d' (by omega)]
    exact h.mks r' k' d' x' hr'
  · rw [u 1 (by omega), u 3 (by omega)]; exact h.wd.none
  · rw [u 1 (by omega), u 3 (by omega), e _ (by omega)]; exact h.wd.lit
  · rw [u 3 (by omega), e _ (by omega)]; exact h.wd.row
  · intro _
    rw [u 3 (by omega), e 13 (by omega)]
    exact ⟨⟨hL3, fun r k d x hr => by rw [u k (by have := mk_key hr; omega)]; exact hm r k d x hr⟩, put_eval (by have := h.sz; omega)⟩
  · rw [u 16 (by omega)]; intro hc; rw [(h.fin hc).1] at h16; cases h16

theorem In.stoStep (h : In w0 B sh vw vh n nh f L a w blk c) (h15 : L 15 = true) :
    In w0 B sh vw vh n nh f (upd L 16 true) (a.put none undef) (w.setCells (B + 1) 0 (cellsAt sh (a.eval (.tmp 13)) vh blk nh)) blk c := by
  have u : ∀ j, j ≠ 16 → upd L 16 true j = L j := fun j hj => upd_other _ _ hj
  have hp : a.put none undef = a := rfl
  rw [hp]
  have hlen : (cellsAt sh (a.eval (.tmp 13)) vh blk nh).length = 15 := rfl
  have ht : Touch w (w.setCells (B + 1) 0 (cellsAt sh (a.eval (.tmp 13)) vh blk nh)) (fun k => k = B + 1) := touch_setCells _ _ _ _
  refine ⟨h.sz, h.df, h.s1, h.s2, h.s3, h.s6, h.s7, h.tch.trans' ht (fun _ _ h => h), World.there_setCells h.th _ _ _, fun k' d' v' hk' hL' => ?_, h.has.touch ht (fun r x e he => by have := h.has.new r x e; omega), fun r' k' d' x' hr' => ?_, h.rest, ⟨?_, ?_, ?_⟩, ?_, ?_⟩
  · rw [u k' (by have := mv_key hk'; omega)] at hL'
    exact h.mvs k' d' v' hk' hL'
  · rw [u k' (by have := mk_key hr'; omega)]
    exact h.mks r' k' d' x' hr'
  · rw [u 1 (by omega), u 3 (by omega)]; exact h.wd.none
  · rw [u 1 (by omega), u 3 (by omega)]; exact h.wd.lit
  · rw [u 3 (by omega)]; exact h.wd.row
  · rw [u 15 (by omega), u 3 (by omega)]
    intro hc
    obtain ⟨⟨h1, h2⟩, h3⟩ := h.bld hc
    exact ⟨⟨h1, fun r k d x hr => by rw [u k (by have := mk_key hr; omega)]; exact h2 r k d x hr⟩, h3⟩
  · intro _
    exact ⟨by rw [u 15 (by omega)]; exact h15, World.rangeAt_setCells_same _ _ _ _ (by rw [hlen]; exact h.th)⟩
end Beg
end Go.Proofs.Ytchhkoalibapiaa
