/-
  Lemmas: PlayAllG, RInv, CopyW, RBegin, LayM, LayP.
-/
import Derived.Test.YtmikhglnomgbfabTv09
import Derived.Test.YtmikhglnomgbfabTv03
import Derived.Test.YtmikhglnomgbfabTv05
import Derived.Orders
import Derived.Laws.AppendOwnNone
import Derived.Deep.MidRow
/-
  Play, whatever the kind of tasks and whatever it is given: an error, or the run.
-/
namespace Go.Proofs.Ytmikhglnomgbfab
open Go.RowKit
set_option linter.unusedVariables false
set_option linter.unusedSimpArgs false
def Fine (P : Par) (most : Int) : Prop := P.n ≤ 4096 ∧ ¬ LongHands P.nh P.jn ∧ P.ns ≤ 65536 ∧ 0 ≤ most ∧ most ≤ 65536
def ErrOf (K : Kd) (P : Par) (most er : Int) : Prop :=
  (4096 < P.n ∧ er = 1) ∨ (P.n ≤ 4096 ∧ (LongHands P.nh P.jn ∨ 65536 < P.ns ∨ 65536 < most) ∧ er = 1) ∨ (P.n ≤ 4096 ∧ ¬ LongHands P.nh P.jn ∧ P.ns ≤ 65536 ∧ most < 0 ∧ er = 2) ∨ (Fine P most ∧ FirstErr K P er)
theorem ErrOf.ne {K : Kd} {P : Par} {most er : Int} (h : ErrOf K P most er) : er ≠ 0 := by
  rcases h with ⟨_, rfl⟩ | ⟨_, _, rfl⟩ | ⟨_, _, _, _, rfl⟩ | ⟨_, _, _, _, _, _, h, _⟩
  · decide
  · decide
  · decide
  · exact h
namespace OfAny
variable {K : Kd} {mk : Value} {w : World} {ao aoh aos : Option Addr} {cap caph caps : Nat} {P : Par} {f : Nat → Int} {most : Int}
def AllB (K : Kd) (w : World) (P : Par) (f : Nat → Int) (most : Int) (e : Ending) (w' : World) : Prop :=
  Below w.heap.size w w' ∧ ((∃ er, ErrOf K P most er ∧ e = .returned (errVal er)) ∨ (Fine P most ∧ AllOk K P ∧ ∃ v, e = .returned v ∧ Told K P (runSt P (st0 K P f) most.toNat) (w.heap.size + 1) v w'))
theorem play_all (S : Sees w w.heap.size ao P.n f) (hf : ∀ i, i < P.n → 0 ≤ f i ∧ f i ≤ 18446744073709551615) (SH : SeesH w w.heap.size aoh P.nh P.jn P.jb) (hn63 : P.nh ≤ 9223372036854775807) (SI : SeesI w w.heap.size aos P.ns P.sched) (hjw : ∀ h, h < P.nh → ∀ j, j < P.jn h → (P.jb h j).wf) (IK : IsKind K) (MK : ∀ w', Below w.heap.size w w' → MakesAt K mk w') :
    Calls Try.prog 57 #[.slice ao P.n cap, .slice aoh P.nh caph, .slice aos P.ns caps, .int .i64 most, mk] w (AllB K w P f most) := by
  by_cases h1 : 4096 < P.n
  · exact (play_words h1).mono fun e w' ⟨he, hb⟩ => ⟨hb, .inl ⟨1, .inl ⟨h1, rfl⟩, he⟩⟩
  · by_cases h2 : LongHands P.nh P.jn ∨ 65536 < P.ns ∨ 65536 < most
    · exact (play_err S hf (by omega) SH hn63 (er := 1) (by decide) (fun w' hb => checkRun_long ((SH.below ((Below.refl _ _).alloc (Nat.le_refl _) _) (Nat.le_refl _)).below hb (by omega)) hn63 most h2)).mono fun e w' ⟨he, hb⟩ => ⟨hb, .inl ⟨1, .inr (.inl ⟨by omega, h2, rfl⟩), he⟩⟩
    · have hl : ¬ LongHands P.nh P.jn := fun h => h2 (.inl h)
      have hs : P.ns ≤ 65536 := by rcases Nat.lt_or_ge 65536 P.ns with l | l; exact absurd (.inr (.inl l)) h2; exact l
      have hm : most ≤ 65536 := by rcases Int.lt_or_le 65536 most with l | l; exact absurd (.inr (.inr l)) h2; exact l
      by_cases h3 : most < 0
      · exact (play_err S hf (by omega) SH hn63 (er := 2) (by decide) (fun w' hb => checkRun_arg ((SH.below ((Below.refl _ _).alloc (Nat.le_refl _) _) (Nat.le_refl _)).below hb (by omega)) hl hs most h3)).mono fun e w' ⟨he, hb⟩ => ⟨hb, .inl ⟨2, .inr (.inr (.inl ⟨by omega, hl, hs, h3, rfl⟩)), he⟩⟩
      · obtain ⟨m, rfl⟩ : ∃ m : Nat, most = m := ⟨most.toNat, by omega⟩
        have hF : Fine P m := ⟨by omega, hl, hs, by omega, hm⟩
        refine (play_run S hf (by omega) SH hl SI hs m (by omega) hjw IK MK).mono fun e w' ⟨hb, hc⟩ => ⟨hb, ?_⟩
        rcases hc with ⟨hok, v, rfl, ht⟩ | ⟨er, hfe, rfl⟩
        · exact .inr ⟨hF, hok, v, rfl, by simpa using ht⟩
        · exact .inl ⟨er, .inr (.inr (.inr ⟨hF, hfe⟩)), rfl⟩
end OfAny
end Go.Proofs.Ytmikhglnomgbfab
/-
  A region that draws its order, by an invariant over what has been done so far: whatever the order, one case an operation.
-/
namespace Go.Proofs.Ytmikhglnomgbfab
open Go.RowKit
set_option linter.unusedVariables false
set_option linter.unusedSimpArgs false
theorem cnt_upd {L : Nat → Bool} {i : Nat} (hi : L i = false) : ∀ n, cnt (fun j => !(upd L i true) j) n + (if i < n then 1 else 0) = cnt (fun j => !L j) n
  | 0 => by simp [cnt]
  | n + 1 => by
    have ih := cnt_upd hi n
    simp only [cnt]
    by_cases h : n = i
    · subst h
      simp only [upd_same, Nat.lt_irrefl, if_false, Nat.add_zero] at ih ⊢
      simp [hi, ih]
    · have hu : upd L i true n = L n := upd_other _ _ h
      have : (i < n + 1) = (i < n) := by apply propext; omega
      simp only [this, hu]
      omega
def lis (listed : Array Bool) : Nat → Bool := fun i => listed.getD i false
theorem lis_set {listed : Array Bool} {i : Nat} (hi : i < listed.size) : lis (listed.setIfInBounds i true) = upd (lis listed) i true := by
  funext j
  by_cases h : j = i
  · subst h; simp [lis, hi]
  · rw [upd_other _ _ h]
    simp [lis, Array.getElem?_setIfInBounds_ne (Ne.symm h)]
section
variable {P : Program} {ops : Array Oper} {Q : Exit → Act → World → Prop} {md : Region.Mode}
theorem wpAny_inv (hg : ∀ (i : Nat) (o : Oper), ops[i]? = some o → o.guard = none) (hback : ∀ (i : Nat) (o : Oper), ops[i]? = some o → ∀ e ∈ o.after, Region.binds md e = true → e.on < i) (I : (Nat → Bool) → Act → World → Prop)
    (hstep : ∀ (L : Nat → Bool) (a : Act) (w : World) (i : Nat) (o : Oper), I L a w → ops[i]? = some o → L i = false → (∀ e ∈ o.after, Region.binds md e = true → L e.on = true) → o.wp P a w (fun a' w' => I (upd L i true) a' w') Q)
    (hend : ∀ (L : Nat → Bool) (a : Act) (w : World), I L a w → (∀ i, i < ops.size → L i = true) → Q .normal a w) :
    ∀ fuel listed a w, listed.size = ops.size → cnt (fun i => !(lis listed) i) ops.size ≤ fuel → I (lis listed) a w → wpAny P md ops Q fuel listed a w := by
  have none_ready : ∀ listed : Array Bool, listed.size = ops.size → Region.ready md ops listed = [] → ∀ i, i < ops.size → lis listed i = true := by
    intro listed hsz hr i
    induction i using Nat.strongRecOn with
    | ind i ih =>
      intro hi
      cases hl : lis listed i with
      | true => rfl
      | false =>
        exfalso
        have hm : i ∈ Region.ready md ops listed := by
          rw [mem_ready]
          refine ⟨?_, ops[i], by simp [hi], fun e he hb => ?_⟩
          · have hlt : i < listed.size := by omega
            simp only [lis] at hl
            simpa [hlt] using hl
          · have hlt := hback i ops[i] (by simp [hi]) e he hb
            exact ih e.on hlt (by omega)
        rw [hr] at hm
        cases hm
  intro fuel
  induction fuel with
  | zero =>
    intro listed a w hsz hc hI
    have hall : ∀ i, i < ops.size → lis listed i = true := fun i hi => by
      have := cnt_zero (g := fun i => !(lis listed) i) (n := ops.size) (by omega) i hi
      simpa using this
    refine ⟨?_, hend _ a w hI hall⟩
    cases hr : Region.ready md ops listed with
    | nil => rfl
    | cons x xs =>
      exfalso
      have hx : x ∈ Region.ready md ops listed := by rw [hr]; simp
      rw [mem_ready] at hx
      obtain ⟨h0, o, ho, _⟩ := hx
      have hlt : x < ops.size := (Array.getElem?_eq_some_iff.1 ho).1
      have := hall x hlt
      have hlt' : x < listed.size := by omega
      simp [lis, hlt'] at this
      simp [hlt'] at h0
      rw [h0] at this
      cases this
  | succ fuel ih =>
    intro listed a w hsz hc hI
    refine ⟨fun hr => hend _ a w hI (none_ready listed hsz hr), fun i hi => ?_⟩
    rw [mem_ready] at hi
    obtain ⟨h0, o, ho, hdep⟩ := hi
    have hlt : i < ops.size := (Array.getElem?_eq_some_iff.1 ho).1
    have hlt' : i < listed.size := by omega
    have hf : lis listed i = false := by simp [hlt'] at h0; simp [lis, hlt', h0]
    have hs := hstep (lis listed) a w i o hI ho hf hdep
    unfold wpOp
    simp only [ho]
    have hw : Region.wanted o (yielded ops a.tmps) = true := by simp [Region.wanted, hg i o ho]
    rw [if_pos hw]
    left
    refine Oper.wp_mono (fun a' w' h => ?_) hs
    refine ih _ a' w' (by simpa using hsz) ?_ (by rw [lis_set hlt']; exact h)
    rw [lis_set hlt']
    have := cnt_upd hf ops.size
    rw [if_pos hlt] at this
    omega
theorem region_inv {id : Nat} {a : Act} {w : World} (hm : P.follows .mixedOrders = true) (hg : ∀ (i : Nat) (o : Oper), ops[i]? = some o → o.guard = none) (hback : ∀ (i : Nat) (o : Oper), ops[i]? = some o → ∀ e ∈ o.after, Region.binds .any e = true → e.on < i) (I : (Nat → Bool) → Act → World → Prop)
    (hstep : ∀ (L : Nat → Bool) (a : Act) (w : World) (i : Nat) (o : Oper), I L a w → ops[i]? = some o → L i = false → (∀ e ∈ o.after, Region.binds .any e = true → L e.on = true) → o.wp P a w (fun a' w' => I (upd L i true) a' w') Q)
    (hend : ∀ (L : Nat → Bool) (a : Act) (w : World), I L a w → (∀ i, i < ops.size → L i = true) → Q .normal a w)
    (h0 : I (fun _ => false) a { w with drawn := w.drawn + 1 }) : (Code.region id ops true).wp P Q a w := by
  refine wp_region_any hm (wpAny_inv hg hback I hstep hend _ _ a _ (by simp) ?_ ?_)
  · exact cnt_le _ _
  · have : lis (Array.replicate ops.size false) = fun _ => false := by
      funext i
      simp [lis, Array.getElem?_replicate]
      split <;> rfl
    rw [this]
    exact h0
end
end Go.Proofs.Ytmikhglnomgbfab
/-
  Words copied by append into a row of the call's own.
-/
namespace Go.Proofs.Ytmikhglnomgbfab
open Go.RowKit
set_option linter.unusedVariables false
set_option linter.unusedSimpArgs false
def wordCells (n : Nat) (f : Nat → Int) : List Value := (List.range n).map fun i => Value.int .u64 (f i)
theorem Sees.news {w : World} {B : Nat} {ao : Option Addr} {n : Nat} {f : Nat → Int} (h : Sees w B ao n f) : ∀ ad, ao = some ad → ∀ j u, (wordCells n f)[j]? = some u → w.cell? (ad.add j) = some u := by
  intro ad hao j u hu
  have hj : j < n := by have := (List.getElem?_eq_some_iff.1 hu).1; simpa [wordCells] using this
  obtain ⟨b, off, he, hbl, hcc⟩ := h j hj
  rw [hao] at he
  cases he
  have : u = .int .u64 (f j) := by simp [wordCells, hj] at hu; exact hu.symm
  subst this
  rw [Go.WideShapes.add_plain]
  exact hcc
theorem Sees.alloc {w : World} {ao : Option Addr} {n : Nat} {f : Nat → Int} (h : Sees w w.heap.size ao n f) (o : Obj) : Sees (w.alloc o) w.heap.size ao n f := h.below ((Below.refl _ w).alloc (Nat.le_refl _) o) (Nat.le_refl _)
end Go.Proofs.Ytmikhglnomgbfab
/-
  The reference's run ahead of its first step: middenref03.Begin, for every list of words and of hands: five rows made and one copied, in whatever order.
-/
namespace Go.Proofs.Ytmikhglnomgbfab
open Go.RowKit
set_option linter.unusedVariables false
set_option linter.unusedSimpArgs false
set_option maxRecDepth 20000
structure Shp where
  a : Int
  b : Int
  c : Int
  d : Int
  e : Int
  f : Int
def Shp.val (s : Shp) : Value := .agg #[.int .i64 s.a, .int .i64 s.b, .int .i64 s.c, .int .i64 s.d, .int .i64 s.e, .int .i64 s.f]
def runCells (s : Shp) (vw vh vt vu vb vk vs va : Value) (la : Int) : List Value :=
  [.int .i64 s.a, .int .i64 s.b, .int .i64 s.c, .int .i64 s.d, .int .i64 s.e, .int .i64 s.f, vw, vh, vt, vu, vb, vk, vs, va, .int .i64 la]
def runVal (s : Shp) (vw vh vt vu vb vk vs va : Value) (la : Int) : Value := .agg (runCells s vw vh vt vu vb vk vs va la).toArray
section
variable {P : Program} {o : Oper} {a : Act} {w : World} {K : Act → World → Prop} {Q : Exit → Act → World → Prop}
theorem wp_value {v : Value} {w' : World} (h : (execOp a.eval o).run P w = .ok (.value v) w') (hk : K (a.put o.dst v) w') : o.wp P a w K Q := by
  unfold Oper.wp; rw [h]; exact hk
end
theorem put_eval {a : Act} {d : Nat} {v : Value} (h : d < a.tmps.size) : (a.put (some d) v).eval (.tmp d) = v := by
  simp [Act.put, Act.eval, h]
theorem put_other {a : Act} {d k : Nat} {v : Value} (h : k ≠ d) : (a.put (some d) v).eval (.tmp k) = a.eval (.tmp k) :=
  Act.eval_put (fun d' hd he => by cases hd; cases he; exact h rfl)
theorem put_size {a : Act} {d : Option Nat} {v : Value} : (a.put d v).tmps.size = a.tmps.size := by
  cases d <;> simp [Act.put]
theorem put_defs {a : Act} {d : Option Nat} {v : Value} : (a.put d v).defers = a.defers := by
  cases d <;> rfl
theorem World.rowIs_alloc' (w : World) (vs : Array Value) (t : TypeId) (n : Nat) (hn : vs.size = n) {f : Nat → Value} (hc : ∀ i, i < n → vs[i]? = some (f i)) : (w.alloc (.cells vs t)).rowIs w.heap.size t n f := by
  subst hn
  exact World.rowIs_alloc w vs t f hc
theorem touch_setCells (b : Nat) : ∀ (vs : List Value) (o : Nat) (w : World), Touch w (w.setCells b o vs) (fun k => k = b)
  | [], _, w => Touch.refl w _
  | v :: r, o, w => by
    rw [World.setCells]
    exact (Touch.setCell (S := fun k => k = b) (Touch.refl w _) ⟨b, o, none⟩ (.inl rfl) v).trans (touch_setCells b r (o + 1) _)
/-! Begin's region. -/
namespace Beg
def mv (vw vh vn vs : Value) : Nat → Option (Nat × Value)
  | 0 => some (10, vs)
  | 2 => some (12, vw)
  | 4 => some (14, vh)
  | 5 => some (15, vn)
  | 7 => some (17, vn)
  | 9 => some (19, vn)
  | 11 => some (21, vn)
  | 13 => some (23, vn)
  | _ => none
def zTask : Array Value := #[.int .i64 0, .int .i64 0, .int .i64 0, .int .i64 0, .int .i64 0, .int .i64 0, .int .i64 0, .int .i64 0, .int .i64 0, .int .i64 0, .int .i64 0, .int .u64 0, .int .i64 0, .int .u64 0, .int .u64 0, .int .u64 0, .int .u64 0, .int .u64 0, .int .u64 0, .int .u64 0, .int .u64 0, .slice none 0 0, .bool false, .int .u64 0, .int .u64 0, .int .u64 0, .int .u64 0, .int .u64 0]
def zKept : Array Value := #[.int .u64 0, .int .u64 0, .int .u64 0, .int .u64 0]
def sl (b n : Nat) : Value := .slice (some ⟨b, 0, none⟩) n n
def cellsAt (sh : Shp) (vw vh : Value) (blk : Rl → Nat) (nh : Nat) : List Value := runCells sh vw vh (sl (blk .tasks) nh) (sl (blk .going) nh) (sl (blk .run) nh) (sl (blk .mem) nh) (.slice none 0 0) (sl (blk .answers) nh) (-1)
structure Wd (N : Nat) (L : Nat → Bool) (a : Act) (blk : Rl → Nat) (c : Rl → Option Row) (n : Nat) (f : Nat → Int) : Prop where
  none : L 1 = false → c .words = .none ∧ L 3 = false
  lit : L 1 = true → L 3 = false → a.eval (.tmp 11) = .slice (some ⟨blk .words, 0, .none⟩) 0 0 ∧ N ≤ blk .words ∧ ∃ F, c .words = some ⟨30, 0, F⟩
  row : L 3 = true → ∃ cap F, a.eval (.tmp 13) = .slice (some ⟨blk .words, 0, .none⟩) n cap ∧ c .words = some ⟨30, cap, F⟩ ∧ n ≤ cap ∧ cap ≤ maxLen ∧ ∀ i, i < n → F i = .int .u64 (f i)
variable {w0 w : World} {B : Nat} {sh : Shp} {vw vh : Value} {n nh : Nat} {f : Nat → Int} {L : Nat → Bool} {a : Act} {blk : Rl → Nat} {c : Rl → Option Row}
end Beg
end Go.Proofs.Ytmikhglnomgbfab
/-
  A layer's maker: the closure over its Task and a shape; what makeTask does with it.
-/
namespace Go.Proofs.Ytmikhglnomgbfab
open Go.RowKit
set_option linter.unusedVariables false
set_option linter.unusedSimpArgs false
set_option maxRecDepth 20000
def mkOf (tb sb : Nat) : Value := .func (.func 99) #[] #[.pointer (some ⟨tb, 0, none⟩), .pointer (some ⟨sb, 0, none⟩)]
structure Boxes (w : World) (tb sb : Nat) (fid : FuncId) (sh : Shp) : Prop where
  t : w.cell? ⟨tb, 0, none⟩ = some (.func (.func fid) #[] #[])
  a : w.cell? ⟨sb, 0, none⟩ = some (.int .i64 sh.a)
  b : w.cell? ⟨sb, 1, none⟩ = some (.int .i64 sh.b)
  c : w.cell? ⟨sb, 2, none⟩ = some (.int .i64 sh.c)
  d : w.cell? ⟨sb, 3, none⟩ = some (.int .i64 sh.d)
  e : w.cell? ⟨sb, 4, none⟩ = some (.int .i64 sh.e)
  f : w.cell? ⟨sb, 5, none⟩ = some (.int .i64 sh.f)
theorem Boxes.below {w w' : World} {tb sb : Nat} {fid : FuncId} {sh : Shp} {B : Nat} (h : Boxes w tb sb fid sh) (hb : Below B w w') (h1 : tb < B) (h2 : sb < B) : Boxes w' tb sb fid sh :=
  ⟨(hb.cell (p := ⟨tb, 0, none⟩) h1).trans h.t, (hb.cell (p := ⟨sb, 0, none⟩) h2).trans h.a, (hb.cell (p := ⟨sb, 1, none⟩) h2).trans h.b, (hb.cell (p := ⟨sb, 2, none⟩) h2).trans h.c, (hb.cell (p := ⟨sb, 3, none⟩) h2).trans h.d, (hb.cell (p := ⟨sb, 4, none⟩) h2).trans h.e, (hb.cell (p := ⟨sb, 5, none⟩) h2).trans h.f⟩
variable {w : World} {tb sb : Nat} {fid : FuncId} {sh : Shp} {hand : Int} {j : Jb} {vt : Value} {er : Int} {Q : World → World → Value → Prop}
end Go.Proofs.Ytmikhglnomgbfab
/-
  layer.Play, whatever the layer: a wrong number of words, or turn's Play over the layer's maker.
-/
namespace Go.Proofs.Ytmikhglnomgbfab
open Go.RowKit
set_option linter.unusedVariables false
set_option linter.unusedSimpArgs false
set_option maxRecDepth 20000
def tv3 (sa : Option Addr) (k sc : Nat) (wa : Option Addr) (n wc : Nat) (en : Bool) (aa : Option Addr) (m ac : Nat) (er : Int) : Value :=
  .tuple #[.agg #[.slice sa k sc, .slice wa n wc, .bool en], .slice aa m ac, .int .i64 er]
def LErr (K : Kd) (want : Nat) (P : Par) (most er : Int) : Prop := (P.n ≠ want ∧ er = 121) ∨ (P.n = want ∧ ErrOf K P most er)
def LAll (K : Kd) (want : Nat) (w : World) (P : Par) (f : Nat → Int) (most : Int) (e : Ending) (w' : World) : Prop :=
  Below w.heap.size w w' ∧ ((∃ er, LErr K want P most er ∧ e = .returned (errVal er)) ∨ (P.n = want ∧ Fine P most ∧ AllOk K P ∧ ∃ v, e = .returned v ∧ Told K P (runSt P (st0 K P f) most.toNat) w.heap.size v w'))
theorem told_touch {K : Kd} {P : Par} {st : St K} {base base' b : Nat} {v : Value} {w w' : World} (h : Told K P st base v w) (ht : Touch w w' (fun k => k = b)) (hb : b < base) (hbb : base' ≤ base) : Told K P st base' v w' := by
  obtain ⟨blk, c, g, sv, rfl, H, G, GS, R, hg, hne⟩ := h
  exact ⟨blk, c, g, sv, rfl, ((H.touch ht (fun r x e he => by have := H.new r x e; omega))).base_le hbb, G, GS, R.block (ht.block g R.lt (fun he => by omega)), by omega, hne⟩
theorem told_shape {K : Kd} {P : Par} {st : St K} {base : Nat} {v : Value} {w : World} (h : Told K P st base v w) : ∃ sa k sc wa n wc en aa m ac, v = tv3 sa k sc wa n wc en aa m ac 0 := by
  obtain ⟨blk, c, g, sv, rfl, H, G, GS, R, hg, hne⟩ := h
  obtain ⟨sa, sc, rfl⟩ := GS.isSlice
  exact ⟨_, _, _, _, _, _, _, _, _, _, rfl⟩
theorem LAll.up {K : Kd} {want : Nat} {w0 w w' w2 : World} {P : Par} {f : Nat → Int} {most : Int} {e : Ending} {b : Nat} (h : LAll K want w P f most e w') (h0 : Below w0.heap.size w0 w) (ht : Touch w' w2 (fun k => k = b)) (hb0 : w0.heap.size ≤ b) (hb : b < w.heap.size) : LAll K want w0 P f most e w2 := by
  obtain ⟨hB, hc⟩ := h
  refine ⟨(h0.trans (hB.mono h0.size)).trans (ht.below (fun k hk => by omega) (Nat.le_trans h0.size hB.size)), ?_⟩
  rcases hc with h | ⟨h1, h2, h3, v, he, hT⟩
  · exact .inl h
  · exact .inr ⟨h1, h2, h3, v, he, told_touch hT ht hb h0.size⟩
theorem LAll.shape {K : Kd} {want : Nat} {w w' : World} {P : Par} {f : Nat → Int} {most : Int} {e : Ending} (h : LAll K want w P f most e w') : ∃ sa k sc wa n wc en aa m ac er, e = .returned (tv3 sa k sc wa n wc en aa m ac er) := by
  rcases h.2 with ⟨er, _, rfl⟩ | ⟨_, _, _, v, rfl, hT⟩
  · exact ⟨none, 0, 0, none, 0, 0, false, none, 0, 0, er, rfl⟩
  · obtain ⟨sa, k, sc, wa, n, wc, en, aa, m, ac, rfl⟩ := told_shape hT
    exact ⟨_, _, _, _, _, _, _, _, _, _, _, rfl⟩
variable {K : Kd} {w : World} {ao aoh aos : Option Addr} {cap caph caps : Nat} {P : Par} {f : Nat → Int} {most : Int} {fsz ft : FuncId} {sh : Shp} {want : Nat}
theorem SeesH.up {w : World} {B C : Nat} {aoh : Option Addr} {nh : Nat} {jn : Nat → Nat} {jb : Nat → Nat → Jb} (h : SeesH w B aoh nh jn jb) (hl : B ≤ C) : SeesH w C aoh nh jn jb := fun i hi => by
  obtain ⟨b, off, ao', cap, e, hb, hc, hj⟩ := h i hi
  exact ⟨b, off, ao', cap, e, by omega, hc, fun q hq => by obtain ⟨b', off', e', hb', hc'⟩ := hj q hq; exact ⟨b', off', e', by omega, hc'⟩⟩
theorem SeesI.up {w : World} {B C : Nat} {ao : Option Addr} {n : Nat} {s : Nat → Int} (h : SeesI w B ao n s) (hl : B ≤ C) : SeesI w C ao n s := fun i hi => by
  obtain ⟨b, off, e, hb, hc⟩ := h i hi
  exact ⟨b, off, e, by omega, hc⟩
end Go.Proofs.Ytmikhglnomgbfab
