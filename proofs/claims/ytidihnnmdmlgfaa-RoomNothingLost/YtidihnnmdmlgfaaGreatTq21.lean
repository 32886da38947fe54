/-
  Lemmas: PlayAllG, RClean, RExec, RTab, RRetN, RRetC.
-/
import Derived.Test.YtidihnnmdmlgfaaGreatTq20
import Derived.Test.YtidihnnmdmlgfaaGreatTq16
import Derived.Test.YtidihnnmdmlgfaaGreatTq17
import Derived.Test.YtidihnnmdmlgfaaGreatTq11
import Derived.Test.YtidihnnmdmlgfaaGreatTq12
namespace Go.Proofs.YtidihnnmdmlgfaaGreat
set_option maxHeartbeats 8000000
open Go.RowKit
set_option linter.unusedVariables false
set_option linter.unusedSimpArgs false
set_option linter.unnecessarySimpa false
set_option maxRecDepth 20000
section
def Fine (P : Par) (most : Int) : Prop := P.n ≤ 4096 ∧ ¬ LongHands P.nh P.jn ∧ P.ns ≤ 65536 ∧ 0 ≤ most ∧ most ≤ 65536
def ErrOf (K : Kd) (P : Par) (most er : Int) : Prop :=
  (4096 < P.n ∧ er = 1) ∨ (P.n ≤ 4096 ∧ (LongHands P.nh P.jn ∨ 65536 < P.ns ∨ 65536 < most) ∧ er = 1) ∨ (P.n ≤ 4096 ∧ ¬ LongHands P.nh P.jn ∧ P.ns ≤ 65536 ∧ most < 0 ∧ er = 2) ∨ (Fine P most ∧ FirstErr K P er)
theorem ErrOf.ne {K : Kd} {P : Par} {most er : Int} (h : ErrOf K P most er) : er ≠ 0 := by
  rcases h with ⟨_, rfl⟩ | ⟨_, _, rfl⟩ | ⟨_, _, _, _, rfl⟩ | ⟨_, _, _, _, _, _, h, _⟩
  · decide
  · decide
  · decide
  · exact h
namespace OfAny
variable {K : Kd} {mk : Value} {w : World} {ao aoh aos : Option Addr} {cap caph caps : Nat} {P : Par} {f : Nat → Int} {most : Int}
def AllB (K : Kd) (w : World) (P : Par) (f : Nat → Int) (most : Int) (e : Ending) (w' : World) : Prop :=
  Below w.heap.size w w' ∧ ((∃ er, ErrOf K P most er ∧ e = .returned (errVal er)) ∨ (Fine P most ∧ AllOk K P ∧ ∃ v, e = .returned v ∧ Told K P (runSt P (st0 K P f) most.toNat) (w.heap.size + 1) v w'))
theorem play_all (S : Sees w w.heap.size ao P.n f) (hf : ∀ i, i < P.n → 0 ≤ f i ∧ f i ≤ 18446744073709551615) (SH : SeesH w w.heap.size aoh P.nh P.jn P.jb) (hn63 : P.nh ≤ 9223372036854775807) (SI : SeesI w w.heap.size aos P.ns P.sched) (hjw : ∀ h, h < P.nh → ∀ j, j < P.jn h → (P.jb h j).wf) (IK : IsKind K) (MK : ∀ w', Below w.heap.size w w' → MakesAt K mk w') :
    Calls Tryz.prog 22 #[.slice ao P.n cap, .slice aoh P.nh caph, .slice aos P.ns caps, .int .i64 most, mk] w (AllB K w P f most) := by
  by_cases h1 : 4096 < P.n
  · exact (play_words h1).mono fun e w' ⟨he, hb⟩ => ⟨hb, .inl ⟨1, .inl ⟨h1, rfl⟩, he⟩⟩
  · by_cases h2 : LongHands P.nh P.jn ∨ 65536 < P.ns ∨ 65536 < most
    · exact (play_err S hf (by omega) SH hn63 (er := 1) (by decide) (fun w' hb => checkRun_long ((SH.below ((Below.refl _ _).alloc (Nat.le_refl _) _) (Nat.le_refl _)).below hb (by omega)) hn63 most h2)).mono fun e w' ⟨he, hb⟩ => ⟨hb, .inl ⟨1, .inr (.inl ⟨by omega, h2, rfl⟩), he⟩⟩
    · have hl : ¬ LongHands P.nh P.jn := fun h => h2 (.inl h)
      have hs : P.ns ≤ 65536 := by rcases Nat.lt_or_ge 65536 P.ns with l | l; exact absurd (.inr (.inl l)) h2; exact l
      have hm : most ≤ 65536 := by rcases Int.lt_or_le 65536 most with l | l; exact absurd (.inr (.inr l)) h2; exact l
      by_cases h3 : most < 0
      · exact (play_err S hf (by omega) SH hn63 (er := 2) (by decide) (fun w' hb => checkRun_arg ((SH.below ((Below.refl _ _).alloc (Nat.le_refl _) _) (Nat.le_refl _)).below hb (by omega)) hl hs most h3)).mono fun e w' ⟨he, hb⟩ => ⟨hb, .inl ⟨2, .inr (.inr (.inl ⟨by omega, hl, hs, h3, rfl⟩)), he⟩⟩
      · obtain ⟨m, rfl⟩ : ∃ m : Nat, most = m := ⟨most.toNat, by omega⟩
        have hF : Fine P m := ⟨by omega, hl, hs, by omega, hm⟩
        refine (play_run S hf (by omega) SH hl SI hs m (by omega) hjw IK MK).mono fun e w' ⟨hb, hc⟩ => ⟨hb, ?_⟩
        rcases hc with ⟨hok, v, rfl, ht⟩ | ⟨er, hfe, rfl⟩
        · exact .inr ⟨hF, hok, v, rfl, by simpa using ht⟩
        · exact .inl ⟨er, .inr (.inr (.inr ⟨hF, hfe⟩)), rfl⟩
end OfAny
end
section
open Beg
def cln (nh : Nat) (c : Rl → Option Row) : Rl → Option Row := fun r => match r with
  | .task _ _ _ => none
  | .trow _ => none
  | .arow h => if h < nh then c (.arow h) else none
  | r => c r
variable {K : Kd} {rep : List Value → K.σ → Prop} {P : Par} {blk : Rl → Nat} {c : Rl → Option Row} {st : St K} {un : Nat → Bool} {capw : Nat} {sv : Value} {w : World} {base : Nat}
theorem rowIs.ne {w : World} {b b' n n' : Nat} {t t' : TypeId} {f f' : Nat → Value} (h : w.rowIs b t n f) (h' : w.rowIs b' t' n' f') (ht : t ≠ t') : b ≠ b' := by
  rintro rfl
  obtain ⟨cc, h1, _⟩ := h
  obtain ⟨cc', h2, _⟩ := h'
  rw [h1] at h2
  cases h2
  exact ht rfl
theorem act_all (a : Act) (n : Nat) (hn : a.tmps.size = n) (hd : a.defers = []) : a = ⟨((List.range n).map fun k => a.eval (.tmp k)).toArray, []⟩ := by
  obtain ⟨tmps, defers⟩ := a
  simp only at hn hd
  subst hd
  congr 1
  apply Array.ext
  · simp [hn]
  · intro i h1 h2
    simp [Act.eval, h1]
end
section
section
variable {ev : Operand → Value} {o : Oper} {w : World}
theorem ex_move {x : Operand} {v : Value} (ho : o.op = .move x) (hx : ev x = v) : (execOp ev o).run Tryz.prog w = .ok (.value v) w := by simp [execOp, ho, hx]
theorem ex_assign {x : Operand} {v : Value} (ho : o.op = .assign x) (hx : ev x = v) : (execOp ev o).run Tryz.prog w = .ok (.value v) w := by simp [execOp, ho, hx]
theorem ex_extract {x : Operand} {vs : Array Value} {i : Nat} {v : Value} (ho : o.op = .extract x i) (hx : ev x = .tuple vs) (hv : vs[i]? = some v) : (execOp ev o).run Tryz.prog w = .ok (.value v) w := by
  simp [execOp, ho, hx, go_sem, hv]
theorem ex_load {x : Operand} {ty : TypeId} {a : Addr} {v : Value} (ho : o.op = .load ty x) (hx : ev x = .pointer (some a)) (hagg : (isAgg ty).run Tryz.prog w = .ok false w) (hc : w.cell? a = some v) : (execOp ev o).run Tryz.prog w = .ok (.value v) w := by
  simp [execOp, ho, hx, Instr.loadAt, Instr.sureAddr, loadVar, Sem.run_bind, hagg, go_sem, hc]
theorem ex_field {x : Operand} {b k q : Nat} {ty : TypeId} (ho : o.op = .fieldAddr ty x k) (hx : ev x = .pointer (some ⟨b, 0, none⟩)) (hf : (Instr.fieldAt ty (.pointer (some ⟨b, 0, none⟩)) k).run Tryz.prog w = .ok (.pointer (some ⟨b, q, none⟩)) w) : (execOp ev o).run Tryz.prog w = .ok (.value (.pointer (some ⟨b, q, none⟩))) w := by
  simp [execOp, ho, hx, hf]
theorem ex_index {x y : Operand} {b off n cap i sz : Nat} {ty e : TypeId} (ho : o.op = .indexAddr ty x y) (hx : ev x = .slice (some ⟨b, off, none⟩) n cap) (hy : ev y = .int .i64 (i : Int)) (hi : i < n) (hu : Tryz.prog.underlying ty = some (.slice e)) (hs : (Tryz.prog.info? e).map (·.size) = some sz) :
    (execOp ev o).run Tryz.prog w = .ok (.value (.pointer (some ⟨b, off + i * sz, none⟩))) w := by
  cases hp : Tryz.prog.info? e with
  | none => rw [hp] at hs; cases hs
  | some info =>
    rw [hp] at hs
    simp at hs
    have h1 : (sizeOf e).run Tryz.prog w = .ok sz w := by simp [sizeOf, typeInfo, hp, hs]
    have hi' : (i : Int) < (n : Int) := by omega
    simp [execOp, ho, hx, hy, Instr.indexAt, Sem.run_bind, run_underlying hu w, asIntOf, go_sem, h1, hi', hi]
theorem alloc46 (ho : o.op = .alloc 122) : (execOp ev o).run Tryz.prog w = .ok (.value (.pointer (some ⟨w.heap.size, 0, none⟩))) (w.alloc (.cells [Value.int .i64 0, .int .i64 0, .int .i64 0, .int .u64 0, .int .u64 0, .bool false].toArray 122)) := by
  simp [execOp, ho, go_sem]
theorem wp_call {P : Program} {a : Act} {K : Act → World → Prop} {Q : Exit → Act → World → Prop} {f : FuncId} {args : Array Value} (hrun : (execOp a.eval o).run P w = .ok (.enter f args) w) (hc : Calls P f args w fun e w' => ∃ v, e = .returned v ∧ K (a.put o.dst v) w') : o.wp P a w K Q := by
  unfold Oper.wp
  rw [hrun, Oper.upon_enter]
  exact hc.mono (fun e w' ⟨v, he, hk⟩ => by subst he; exact hk)
theorem call4 {f : FuncId} {x0 x1 x2 x3 : Operand} {ts : Array TypeId} {v0 v1 v2 v3 : Value} (ho : o.op = Op.call { callee := Callee.value (Operand.func f), args := #[x0, x1, x2, x3], argTypes := ts }) (h0 : ev x0 = v0) (h1 : ev x1 = v1) (h2 : ev x2 = v2) (h3 : ev x3 = v3) (hf : ev (Operand.func f) = .func (.func f) #[] #[]) (hcf : (callFunc f #[v0, v1, v2, v3]).run Tryz.prog w = .ok (.enter f #[v0, v1, v2, v3]) w) :
    (execOp ev o).run Tryz.prog w = .ok (.enter f #[v0, v1, v2, v3]) w := by
  simp [execOp, ho, h0, h1, h2, h3, hf, resolve, invoke, go_sem, hcf]
theorem call2 {f : FuncId} {x0 x1 : Operand} {ts : Array TypeId} {v0 v1 : Value} (ho : o.op = Op.call { callee := Callee.value (Operand.func f), args := #[x0, x1], argTypes := ts }) (h0 : ev x0 = v0) (h1 : ev x1 = v1) (hf : ev (Operand.func f) = .func (.func f) #[] #[]) (hcf : (callFunc f #[v0, v1]).run Tryz.prog w = .ok (.enter f #[v0, v1]) w) :
    (execOp ev o).run Tryz.prog w = .ok (.enter f #[v0, v1]) w := by
  simp [execOp, ho, h0, h1, hf, resolve, invoke, go_sem, hcf]
theorem ex_load_row {x : Operand} {ty : TypeId} {b off : Nat} {cs : List Value} {d : TypeDesc} (ho : o.op = .load ty x) (hx : ev x = .pointer (some ⟨b, off, none⟩)) (hc : w.rangeAt b off cs) (hu : Tryz.prog.underlying ty = some d) (hd : d.isRow = true) (hi : (Tryz.prog.info? ty).map (·.size) = some cs.length) :
    (execOp ev o).run Tryz.prog w = .ok (.value (.agg cs.toArray)) w := by
  simp [execOp, ho, hx, run_loadAt_mid w b off ty cs d hc hu hd hi]
end
end
section
namespace Reg
theorem notD {b : Bool} (h : b = false) : ¬ b = true := by simp [h]
structure TabL where
  ks : List (Nat × Nat)
  vals : Nat → Value
  kc : Nat
  sc : Nat
  vc : Value
  as_ : List (Nat × Nat)
  aty : Nat → TypeId × List Value
  ss : List (Nat × Nat)
  sv : Nat → List Value
def look (l : List (Nat × Nat)) (i : Nat) : Option Nat := (l.find? (fun p => p.1 == i)).map (·.2)
theorem look_mem {l : List (Nat × Nat)} {i d : Nat} (h : look l i = some d) : (i, d) ∈ l := by
  unfold look at h
  obtain ⟨p, hp, hd⟩ := Option.map_eq_some_iff.1 h
  have h1 := List.find?_some hp
  have h2 := List.mem_of_find?_eq_some hp
  simp at h1
  subst h1; subst hd
  exact h2
def TabL.tab (t : TabL) : Tab where
  pv i := (look t.ks i).map (fun d => (d, t.vals i))
  kc := t.kc
  sc := t.sc
  vc := t.vc
  al i := (look t.as_ i).map (fun s => (s, (t.aty i).1, (t.aty i).2))
  so i := (look t.ss i).map (fun j => (j, t.sv i))
  D k := (t.ks.any (fun p => p.2 == k) || (t.sc == k || t.as_.any (fun p => p.2 == k))) = true
def TabL.good (t : TabL) : Bool :=
  (t.ks.all fun p => p.2 != t.sc && p.1 != t.kc && (t.ks.all fun q => p.1 == q.1 || p.2 != q.2) && (t.as_.all fun q => p.2 != q.2 && p.1 != q.1) && (t.ss.all fun q => p.1 != q.1)) &&
  (t.as_.all fun p => p.2 != t.sc && p.1 != t.kc && (t.as_.all fun q => p.1 == q.1 || p.2 != q.2) && (t.ss.all fun q => p.1 != q.1)) &&
  (t.ss.all fun p => p.1 != t.kc && (look t.as_ p.2).isSome && (t.ss.all fun q => p.2 != q.2 || p.1 == q.1))
theorem TabL.ok (t : TabL) (hg : t.good = true) (hz : ∀ i j, (i, j) ∈ t.ss → (t.aty j).2.length = (t.sv i).length) : t.tab.Ok := by
  simp only [TabL.good, Bool.and_eq_true, List.all_eq_true, bne_iff_ne, Bool.or_eq_true, beq_iff_eq] at hg
  obtain ⟨⟨hk, ha⟩, hs⟩ := hg
  have pv : ∀ {i d v}, t.tab.pv i = some (d, v) → (i, d) ∈ t.ks := fun {i d v} h => by
    obtain ⟨d', h1, h2⟩ := Option.map_eq_some_iff.1 h
    cases h2; exact look_mem h1
  have al : ∀ {i s ty z}, t.tab.al i = some (s, ty, z) → (i, s) ∈ t.as_ := fun {i s ty z} h => by
    obtain ⟨d', h1, h2⟩ := Option.map_eq_some_iff.1 h
    cases h2; exact look_mem h1
  have so : ∀ {i j l}, t.tab.so i = some (j, l) → (i, j) ∈ t.ss ∧ l = t.sv i := fun {i j l} h => by
    obtain ⟨d', h1, h2⟩ := Option.map_eq_some_iff.1 h
    cases h2; exact ⟨look_mem h1, rfl⟩
  refine ⟨fun i d v h => ?_, ?_, fun i s ty z h => ?_, fun i j d v d' v' h h' hne => ?_, fun i j d v s ty z h h' => ?_, fun i j s ty z s' ty' z' h h' hne => ?_, fun i j d v y h h' => ?_, fun i j x y h h' => ?_, fun j y h => ?_, fun i j l h => ?_, fun i i' j l l' h h' => ?_⟩
  · obtain ⟨⟨⟨⟨h1, h2⟩, _⟩, _⟩, _⟩ := hk _ (pv h)
    exact ⟨by simp only [TabL.tab, Bool.or_eq_true, List.any_eq_true, beq_iff_eq]; exact .inl ⟨_, pv h, rfl⟩, h1, h2⟩
  · simp [TabL.tab]
  · obtain ⟨⟨⟨h1, h2⟩, _⟩, _⟩ := ha _ (al h)
    exact ⟨by simp only [TabL.tab, Bool.or_eq_true, List.any_eq_true, beq_iff_eq]; exact .inr (.inr ⟨_, al h, rfl⟩), h1, h2⟩
  · obtain ⟨⟨⟨_, h3⟩, _⟩, _⟩ := hk _ (pv h)
    rcases h3 _ (pv h') with e | e
    · exact absurd e hne
    · exact e
  · obtain ⟨⟨_, h4⟩, _⟩ := hk _ (pv h)
    exact h4 _ (al h')
  · obtain ⟨⟨_, h3⟩, _⟩ := ha _ (al h)
    rcases h3 _ (al h') with e | e
    · exact absurd e hne
    · exact e
  · obtain ⟨_, h5⟩ := hk _ (pv h)
    obtain ⟨j', l⟩ := y
    exact h5 _ (so h').1
  · obtain ⟨s, ty, z⟩ := x
    obtain ⟨j', l⟩ := y
    obtain ⟨_, h4⟩ := ha _ (al h)
    exact h4 _ (so h').1
  · obtain ⟨j', l⟩ := y
    exact (hs _ (so h).1).1.1
  · obtain ⟨hm, rfl⟩ := so h
    obtain ⟨⟨_, h2⟩, _⟩ := hs _ hm
    obtain ⟨s, hs'⟩ := Option.isSome_iff_exists.1 h2
    exact ⟨s, (t.aty j).1, (t.aty j).2, by show (look t.as_ j).map _ = _; simp only at hs'; rw [hs']; rfl, hz i j hm⟩
  · obtain ⟨_, h3⟩ := hs _ (so h).1
    rcases h3 _ (so h').1 with e | e
    · exact absurd rfl e
    · exact e
end Reg
end
section
namespace RetN
def pv (ks : List (Nat × Nat)) (vals : Nat → Value) (i : Nat) : Option (Nat × Value) := (Reg.look ks i).map (fun d => (d, vals i))
def D (ks : List (Nat × Nat)) (k : Nat) : Prop := (ks.any (fun p => p.2 == k)) = true
structure In (ks : List (Nat × Nat)) (vals : Nat → Value) (w0 : World) (a0 : Act) (C E iC iE : Nat) (lt ls : List Value) (L : Nat → Bool) (a : Act) (w : World) : Prop where
  sz : a.tmps.size = a0.tmps.size
  df : a.defers = a0.defers
  fix : ∀ k, ¬ D ks k → a.eval (.tmp k) = a0.eval (.tmp k)
  pure : ∀ i d v, pv ks vals i = some (d, v) → L i = true → a.eval (.tmp d) = v
  tch : Touch w0 w (fun k => k = C ∨ k = E)
  tC : w.there C 0 lt.length
  tE : w.there E 0 ls.length
  sC : L iC = true → w.rangeAt C 0 lt
  sE : L iE = true → w.rangeAt E 0 ls
theorem region {P : Program} {id : Nat} {ops : Array Oper} {Q : Exit → Act → World → Prop} {ks : List (Nat × Nat)} {vals : Nat → Value} {w0 : World} {a0 : Act} {C E iC iE : Nat} {lt ls : List Value}
    (hm : P.follows .mixedOrders = true) (hg : ∀ (i : Nat) (o : Oper), ops[i]? = some o → o.guard = none) (hback : ∀ (i : Nat) (o : Oper), ops[i]? = some o → ∀ e ∈ o.after, Region.binds .any e = true → e.on < i)
    (hgood : (ks.all fun p => (ks.all fun q => p.1 == q.1 || p.2 != q.2) && (p.1 != iC && p.1 != iE)) = true) (hCE : C ≠ E) (hi : iC ≠ iE) (hD : ∀ k, D ks k → k < a0.tmps.size)
    (hl : ∀ u ∈ lt, u.oneCell' = true) (hs : ∀ u ∈ ls, u.oneCell' = true) (tC : w0.there C 0 lt.length) (tE : w0.there E 0 ls.length)
    (kinds : ∀ (i : Nat) (o : Oper), ops[i]? = some o →
      (∃ d v, pv ks vals i = some (d, v) ∧ o.dst = some d ∧ ∀ L a w, In ks vals w0 a0 C E iC iE lt ls L a w → (∀ e ∈ o.after, Region.binds .any e = true → L e.on = true) → (execOp a.eval o).run P w = .ok (.value v) w) ∨
      (i = iC ∧ o.dst = none ∧ ∃ ty x y, o.op = .store ty x y ∧ (P.info? ty).map (·.size) = some lt.length ∧ ∀ L a w, In ks vals w0 a0 C E iC iE lt ls L a w → (∀ e ∈ o.after, Region.binds .any e = true → L e.on = true) → a.eval x = .pointer (some ⟨C, 0, none⟩) ∧ a.eval y = .agg lt.toArray) ∨
      (i = iE ∧ o.dst = none ∧ ∃ ty x y, o.op = .store ty x y ∧ (P.info? ty).map (·.size) = some ls.length ∧ ∀ L a w, In ks vals w0 a0 C E iC iE lt ls L a w → (∀ e ∈ o.after, Region.binds .any e = true → L e.on = true) → a.eval x = .pointer (some ⟨E, 0, none⟩) ∧ a.eval y = .agg ls.toArray))
    (fin : ∀ L a w, In ks vals w0 a0 C E iC iE lt ls L a w → (∀ i, i < ops.size → L i = true) → Q .normal a w) :
    (Code.region id ops true).wp P Q a0 w0 := by
  simp only [Bool.and_eq_true, List.all_eq_true, bne_iff_ne, Bool.or_eq_true, beq_iff_eq] at hgood
  have pvm : ∀ {i d v}, pv ks vals i = some (d, v) → (i, d) ∈ ks := fun {i d v} h => by
    obtain ⟨d', h1, h2⟩ := Option.map_eq_some_iff.1 h
    cases h2; exact Reg.look_mem h1
  refine region_inv hm hg hback (fun L a w => In ks vals w0 a0 C E iC iE lt ls L a w) ?step (fun L a w h hall => fin L a w h hall) ?start
  case start => exact ⟨rfl, rfl, fun _ _ => rfl, fun _ _ _ _ h => (by cases h), ⟨rfl, rfl, rfl, Nat.le_refl _, fun _ _ _ => rfl⟩, tC, tE, fun h => (by cases h), fun h => (by cases h)⟩
  case step =>
    rintro L a w i o h ho hL hd
    rcases kinds i o ho with ⟨d, v, hv, hdst, hrun⟩ | ⟨rfl, hdst, ty, x, y, hop, hsz, hev⟩ | ⟨rfl, hdst, ty, x, y, hop, hsz, hev⟩
    · refine wp_value (hrun L a w h hd) ?_
      rw [hdst]
      have hm' := pvm hv
      obtain ⟨hap, hnC, hnE⟩ := hgood _ hm'
      have hDd : D ks d := by simp only [D, List.any_eq_true, beq_iff_eq]; exact ⟨_, hm', rfl⟩
      have e : ∀ k : Nat, k ≠ d → (a.put (some d) v).eval (.tmp k) = a.eval (.tmp k) := fun k hk => put_other hk
      refine ⟨by rw [put_size]; exact h.sz, by rw [put_defs]; exact h.df, fun k hk => ?_, fun j d' v' hj hLj => ?_, h.tch, h.tC, h.tE, fun h1 => h.sC ?_, fun h1 => h.sE ?_⟩
      · rw [e k (fun he => hk (he ▸ hDd))]; exact h.fix k hk
      · by_cases hij : j = i
        · subst hij
          rw [hv] at hj; cases hj
          exact put_eval (by rw [h.sz]; exact hD _ hDd)
        · rw [upd_other _ _ hij] at hLj
          have : d' ≠ d := by
            rcases hap _ (pvm hj) with e1 | e1
            · exact absurd e1.symm hij
            · exact Ne.symm e1
          rw [e d' this]
          exact h.pure j d' v' hj hLj
      · rwa [upd_other _ _ (Ne.symm hnC)] at h1
      · rwa [upd_other _ _ (Ne.symm hnE)] at h1
    · obtain ⟨px, py⟩ := hev L a w h hd
      refine wp_store_mid ty x y hop C 0 lt.toArray px py (by simpa using h.tC) (by simpa using hsz) (all_oneCell_toArray hl) ?_
      rw [hdst]
      have tt := touch_setCells C lt 0 w
      have sm := World.rangeAt_setCells_same w C 0 lt h.tC
      have nk : ∀ {j d v}, pv ks vals j = some (d, v) → j ≠ i := fun {j d v} hj => (hgood _ (pvm hj)).2.1
      exact ⟨h.sz, h.df, h.fix, fun j d' v' hj hLj => h.pure j d' v' hj (by rwa [upd_other _ _ (nk hj)] at hLj), h.tch.trans' tt (fun k _ h => .inl h), World.there_setCells h.tC _ _ _, World.there_setCells h.tE _ _ _, fun _ => sm, fun h1 => World.rangeAt_setCells_apart (h.sE (by rwa [upd_other _ _ (Ne.symm hi)] at h1)) _ _ _ (.inl (Ne.symm hCE))⟩
    · obtain ⟨px, py⟩ := hev L a w h hd
      refine wp_store_mid ty x y hop E 0 ls.toArray px py (by simpa using h.tE) (by simpa using hsz) (all_oneCell_toArray hs) ?_
      rw [hdst]
      have tt := touch_setCells E ls 0 w
      have sm := World.rangeAt_setCells_same w E 0 ls h.tE
      have nk : ∀ {j d v}, pv ks vals j = some (d, v) → j ≠ i := fun {j d v} hj => (hgood _ (pvm hj)).2.2
      exact ⟨h.sz, h.df, h.fix, fun j d' v' hj hLj => h.pure j d' v' hj (by rwa [upd_other _ _ (nk hj)] at hLj), h.tch.trans' tt (fun k _ h => .inr h), World.there_setCells h.tC _ _ _, World.there_setCells h.tE _ _ _, fun h1 => World.rangeAt_setCells_apart (h.sC (by rwa [upd_other _ _ hi] at h1)) _ _ _ (.inl hCE), fun _ => sm⟩
end RetN
end
section
namespace RetC
open RetN (pv D)
structure In (ks : List (Nat × Nat)) (vals : Nat → Value) (kc sc : Nat) (vc : Value) (WI : Bool → World → Prop) (a0 : Act) (E iE : Nat) (ls : List Value) (L : Nat → Bool) (a : Act) (w : World) : Prop where
  sz : a.tmps.size = a0.tmps.size
  df : a.defers = a0.defers
  fix : ∀ k, ¬ D ks k → k ≠ sc → a.eval (.tmp k) = a0.eval (.tmp k)
  pure : ∀ i d v, pv ks vals i = some (d, v) → L i = true → a.eval (.tmp d) = v
  call : L kc = true → a.eval (.tmp sc) = vc
  dep : L iE = true → L kc = true
  world : WI (L kc) w
  tE : w.there E 0 ls.length
  sE : L iE = true → w.rangeAt E 0 ls
theorem region {P : Program} {id : Nat} {ops : Array Oper} {Q : Exit → Act → World → Prop} {ks : List (Nat × Nat)} {vals : Nat → Value} {w0 : World} {a0 : Act} {kc sc : Nat} {vc : Value} {WI : Bool → World → Prop} {E iE : Nat} {ls : List Value}
    (hm : P.follows .mixedOrders = true) (hg : ∀ (i : Nat) (o : Oper), ops[i]? = some o → o.guard = none) (hback : ∀ (i : Nat) (o : Oper), ops[i]? = some o → ∀ e ∈ o.after, Region.binds .any e = true → e.on < i)
    (hgood : (ks.all fun p => (ks.all fun q => p.1 == q.1 || p.2 != q.2) && (p.1 != kc && p.1 != iE && p.2 != sc)) = true) (hki : kc ≠ iE) (hD : ∀ k, D ks k → k < a0.tmps.size) (hsc : sc < a0.tmps.size)
    (hs : ∀ u ∈ ls, u.oneCell' = true) (tE : w0.there E 0 ls.length) (hW0 : WI false { w0 with drawn := w0.drawn + 1 }) (hWE : ∀ w, WI true w → WI true (w.setCells E 0 ls))
    (kinds : ∀ (i : Nat) (o : Oper), ops[i]? = some o →
      (∃ d v, pv ks vals i = some (d, v) ∧ o.dst = some d ∧ ∀ L a w, In ks vals kc sc vc WI a0 E iE ls L a w → (∀ e ∈ o.after, Region.binds .any e = true → L e.on = true) → (execOp a.eval o).run P w = .ok (.value v) w) ∨
      (i = kc ∧ o.dst = some sc ∧ ∀ L a w (K : Act → World → Prop), In ks vals kc sc vc WI a0 E iE ls L a w → L kc = false → (∀ e ∈ o.after, Region.binds .any e = true → L e.on = true) → (∀ w', WI true w' → w'.there E 0 ls.length → K (a.put (some sc) vc) w') → o.wp P a w K Q) ∨
      (i = iE ∧ o.dst = none ∧ ∃ ty x y, o.op = .store ty x y ∧ (P.info? ty).map (·.size) = some ls.length ∧ ∀ L a w, In ks vals kc sc vc WI a0 E iE ls L a w → (∀ e ∈ o.after, Region.binds .any e = true → L e.on = true) → a.eval x = .pointer (some ⟨E, 0, none⟩) ∧ a.eval y = .agg ls.toArray ∧ L kc = true))
    (fin : ∀ L a w, In ks vals kc sc vc WI a0 E iE ls L a w → (∀ i, i < ops.size → L i = true) → Q .normal a w) :
    (Code.region id ops true).wp P Q a0 w0 := by
  simp only [Bool.and_eq_true, List.all_eq_true, bne_iff_ne, Bool.or_eq_true, beq_iff_eq] at hgood
  have pvm : ∀ {i d v}, pv ks vals i = some (d, v) → (i, d) ∈ ks := fun {i d v} h => by
    obtain ⟨d', h1, h2⟩ := Option.map_eq_some_iff.1 h
    cases h2; exact Reg.look_mem h1
  refine region_inv hm hg hback (fun L a w => In ks vals kc sc vc WI a0 E iE ls L a w) ?step (fun L a w h hall => fin L a w h hall) ?start
  case start => exact ⟨rfl, rfl, fun _ _ _ => rfl, fun _ _ _ _ h => (by cases h), fun h => (by cases h), fun h => (by cases h), hW0, tE, fun h => (by cases h)⟩
  case step =>
    rintro L a w i o h ho hL hd
    rcases kinds i o ho with ⟨d, v, hv, hdst, hrun⟩ | ⟨rfl, hdst, hcall⟩ | ⟨rfl, hdst, ty, x, y, hop, hsz, hev⟩
    · refine wp_value (hrun L a w h hd) ?_
      rw [hdst]
      have hm' := pvm hv
      obtain ⟨hap, ⟨hnC, hnE⟩, hns⟩ := hgood _ hm'
      have hDd : D ks d := by simp only [D, List.any_eq_true, beq_iff_eq]; exact ⟨_, hm', rfl⟩
      have e : ∀ k : Nat, k ≠ d → (a.put (some d) v).eval (.tmp k) = a.eval (.tmp k) := fun k hk => put_other hk
      have uc : upd L i true kc = L kc := upd_other _ _ (Ne.symm hnC)
      have uE : upd L i true iE = L iE := upd_other _ _ (Ne.symm hnE)
      refine ⟨by rw [put_size]; exact h.sz, by rw [put_defs]; exact h.df, fun k hk hk2 => ?_, fun j d' v' hj hLj => ?_, fun h1 => ?_, by rw [uc, uE]; exact h.dep, by rw [uc]; exact h.world, h.tE, by rw [uE]; exact h.sE⟩
      · rw [e k (fun he => hk (he ▸ hDd))]; exact h.fix k hk hk2
      · by_cases hij : j = i
        · subst hij
          rw [hv] at hj; cases hj
          exact put_eval (by rw [h.sz]; exact hD _ hDd)
        · rw [upd_other _ _ hij] at hLj
          have : d' ≠ d := by
            rcases hap _ (pvm hj) with e1 | e1
            · exact absurd e1.symm hij
            · exact Ne.symm e1
          rw [e d' this]
          exact h.pure j d' v' hj hLj
      · rw [uc] at h1
        rw [e sc (Ne.symm hns)]
        exact h.call h1
    · refine hcall L a w _ h hL hd (fun w' hW ht => ?_)
      have e : ∀ k : Nat, k ≠ sc → (a.put (some sc) vc).eval (.tmp k) = a.eval (.tmp k) := fun k hk => put_other hk
      have nE : L iE = false := by
        cases hE : L iE with
        | false => rfl
        | true => exact absurd (h.dep hE) (by rw [hL]; decide)
      refine ⟨by rw [put_size]; exact h.sz, by rw [put_defs]; exact h.df, fun k hk hk2 => by rw [e k hk2]; exact h.fix k hk hk2, fun j d' v' hj hLj => ?_, fun _ => put_eval (by rw [h.sz]; exact hsc), fun _ => upd_same _ _ _, by rw [upd_same]; exact hW, ht, fun h1 => ?_⟩
      · obtain ⟨_, ⟨hnC, hnE⟩, hns⟩ := hgood _ (pvm hj)
        rw [upd_other _ _ hnC] at hLj
        rw [e d' hns]
        exact h.pure j d' v' hj hLj
      · rw [upd_other _ _ (Ne.symm hki), nE] at h1
        cases h1
    · obtain ⟨px, py, hk⟩ := hev L a w h hd
      refine wp_store_mid ty x y hop E 0 ls.toArray px py (by simpa using h.tE) (by simpa using hsz) (all_oneCell_toArray hs) ?_
      rw [hdst]
      have sm := World.rangeAt_setCells_same w E 0 ls h.tE
      have nk : ∀ {j d v}, pv ks vals j = some (d, v) → j ≠ i := fun {j d v} hj => (hgood _ (pvm hj)).2.1.2
      have uc : upd L i true kc = L kc := upd_other _ _ hki
      have hw := h.world
      rw [hk] at hw
      exact ⟨h.sz, h.df, h.fix, fun j d' v' hj hLj => h.pure j d' v' hj (by rwa [upd_other _ _ (nk hj)] at hLj), fun _ => h.call hk, fun _ => by rw [uc]; exact hk, by rw [uc, hk]; exact hWE _ hw, World.there_setCells h.tE _ _ _, fun _ => sm⟩
end RetC
theorem ex_nil {ev : Operand → Value} {o : Oper} {w : World} {x : Operand} {a : Addr} (ho : o.op = .nilCheck x) (hx : ev x = .pointer (some a)) : (execOp ev o).run Tryz.prog w = .ok (.value (.pointer (some a))) w := by
  simp [execOp, ho, hx, go_sem]
end
end Go.Proofs.YtidihnnmdmlgfaaGreat
