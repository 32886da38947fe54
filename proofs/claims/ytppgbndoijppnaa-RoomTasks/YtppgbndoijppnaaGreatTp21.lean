/-
  Lemmas: PlayAllG, RClean, RExec, RTab, RRetN, RRetC.
-/
import Derived.Test.YtppgbndoijppnaaGreatTp20
import Derived.Test.YtppgbndoijppnaaGreatTp16
import Derived.Test.YtppgbndoijppnaaGreatTp17
import Derived.Test.YtppgbndoijppnaaGreatTp11
import Derived.Test.YtppgbndoijppnaaGreatTp12
namespace Go.Proofs.YtppgbndoijppnaaGreat
set_option maxHeartbeats 8000000
open Go.RowKit
set_option linter.unusedVariables false
set_option linter.unusedSimpArgs false
set_option linter.unnecessarySimpa false
set_option maxRecDepth 20000
section
def Fine (P : Par) (most : Int) : Prop := P.n ≤ 4096 ∧ ¬ LongHands P.nh P.jn ∧ P.ns ≤ 65536 ∧ 0 ≤ most ∧ most ≤ 65536
def ErrOf (K : Kd) (P : Par) (most er : Int) : Prop :=
 (4096 < P.n ∧ er = 1) ∨ (P.n ≤ 4096 ∧ (LongHands P.nh P.jn ∨ 65536 < P.ns ∨ 65536 < most) ∧ er = 1) ∨ (P.n ≤ 4096 ∧ ¬ LongHands P.nh P.jn ∧ P.ns ≤ 65536 ∧ most < 0 ∧ er = 2) ∨ (Fine P most ∧ FirstErr K P er)
namespace OfAny
variable {K : Kd} {mk : Value} {w : World} {ao aoh aos : Option Addr} {cap caph caps : Nat} {P : Par} {f : Nat → Int} {most : Int}
def AllB (K : Kd) (w : World) (P : Par) (f : Nat → Int) (most : Int) (e : Ending) (w' : World) : Prop :=
 Below w.heap.size w w' ∧ ((∃ er, ErrOf K P most er ∧ e = .returned (errVal er)) ∨ (Fine P most ∧ AllOk K P ∧ ∃ v, e = .returned v ∧ Told K P (runSt P (st0 K P f) most.toNat) (w.heap.size + 1) v w'))
theorem play_all (S : Sees w w.heap.size ao P.n f) (hf : ∀ i, i < P.n → 0 ≤ f i ∧ f i ≤ 18446744073709551615) (SH : SeesH w w.heap.size aoh P.nh P.jn P.jb) (hn63 : P.nh ≤ 9223372036854775807) (SI : SeesI w w.heap.size aos P.ns P.sched) (hjw : ∀ h, h < P.nh → ∀ j, j < P.jn h → (P.jb h j).wf) (IK : IsKind K) (MK : ∀ w', Below w.heap.size w w' → MakesAt K mk w') :
  Calls Tryz.prog 51 #[.slice ao P.n cap, .slice aoh P.nh caph, .slice aos P.ns caps, .int .i64 most, mk] w (AllB K w P f most) := by
 by_cases h1 : 4096 < P.n
 ·exact (play_words h1).mono fun e w' ⟨he, hb⟩ => ⟨hb, .inl ⟨1, .inl ⟨h1, rfl⟩, he⟩⟩
 ·by_cases h2 : LongHands P.nh P.jn ∨ 65536 < P.ns ∨ 65536 < most
  ·exact (play_err S hf (by omega) SH hn63 (er := 1) (by decide) (fun w' hb => checkRun_long ((SH.below ((Below.refl _ _).alloc (Nat.le_refl _) _) (Nat.le_refl _)).below hb (by omega)) hn63 most h2)).mono fun e w' ⟨he, hb⟩ => ⟨hb, .inl ⟨1, .inr (.inl ⟨by omega, h2, rfl⟩), he⟩⟩
  ·have hl : ¬ LongHands P.nh P.jn := fun h => h2 (.inl h)
   have hs : P.ns ≤ 65536 := by rcases Nat.lt_or_ge 65536 P.ns with l | l; exact absurd (.inr (.inl l)) h2; exact l
   have hm : most ≤ 65536 := by rcases Int.lt_or_le 65536 most with l | l; exact absurd (.inr (.inr l)) h2; exact l
   by_cases h3 : most < 0
   ·exact (play_err S hf (by omega) SH hn63 (er := 2) (by decide) (fun w' hb => checkRun_arg ((SH.below ((Below.refl _ _).alloc (Nat.le_refl _) _) (Nat.le_refl _)).below hb (by omega)) hl hs most h3)).mono fun e w' ⟨he, hb⟩ => ⟨hb, .inl ⟨2, .inr (.inr (.inl ⟨by omega, hl, hs, h3, rfl⟩)), he⟩⟩
   ·obtain ⟨m, rfl⟩ : ∃ m : Nat, most = m := ⟨most.toNat, by omega⟩
    have hF : Fine P m := ⟨by omega, hl, hs, by omega, hm⟩
    refine (play_run S hf (by omega) SH hl SI hs m (by omega) hjw IK MK).mono fun e w' ⟨hb, hc⟩ => ⟨hb, ?_⟩
    rcases hc with ⟨hok, v, rfl, ht⟩ | ⟨er, hfe, rfl⟩
    ·exact .inr ⟨hF, hok, v, rfl, by simpa using ht⟩
    ·exact .inl ⟨er, .inr (.inr (.inr ⟨hF, hfe⟩)), rfl⟩
end OfAny
end
section
open Beg
def cln (nh : Nat) (c : Rl → Option Row) : Rl → Option Row := fun r => match r with
 | .task _ _ _ => none
 | .trow _ => none
 | .arow h => if h < nh then c (.arow h) else none
 | r => c r
variable {K : Kd} {rep : List Value → K.σ → Prop} {P : Par} {blk : Rl → Nat} {c : Rl → Option Row} {st : St K} {un : Nat → Bool} {capw : Nat} {sv : Value} {w : World} {base : Nat}
theorem RGood.types (G : RGood K rep P blk c st un capw sv) : ∀ r x, cln P.nh c r = some x → x.t ≠ 115 ∧ x.t ≠ 32 ∧ x.t ≠ 23 := by
 intro r x e
 have grow : ∀ {r : Rl} {ty : TypeId} {sz k : Nat} {xs : List Value} {v : Value}, Grows blk c r ty sz k xs v → c r = some x → x.t = ty := fun {r ty sz k xs v} hg he => by
  rcases hg with ⟨_, _, h⟩ | ⟨cap, F, _, h, _⟩
  ·rw [h] at he; cases he
  ·rw [h] at he; cases he; rfl
 cases r with
 | mem => obtain ⟨Kf, h, _⟩ := G.kept; have e' : c .mem = some x := e; rw [h] at e'; cases e'; simp
 | words => obtain ⟨F, h, _⟩ := G.words; have e' : c .words = some x := e; rw [h] at e'; cases e'; simp
 | run => obtain ⟨F, h, _⟩ := G.begun; have e' : c .run = some x := e; rw [h] at e'; cases e'; simp
 | tasks => obtain ⟨F, h, _⟩ := G.tasks; have e' : c .tasks = some x := e; rw [h] at e'; cases e'; simp
 | going => obtain ⟨F, h, _⟩ := G.under; have e' : c .going = some x := e; rw [h] at e'; cases e'; simp
 | answers => obtain ⟨F, h, _⟩ := G.answers; have e' : c .answers = some x := e; rw [h] at e'; cases e'; simp
 | steps => have := grow G.steps e; rw [this]; simp
 | trow h => cases e
 | task h j => cases e
 | arow h =>
  simp only [cln] at e
  split at e
  ·rename_i hh
   obtain ⟨A, _, hA⟩ := G.answers
   have := grow (hA h hh) e
   rw [this]; simp
  ·cases e
theorem act_all (a : Act) (n : Nat) (hn : a.tmps.size = n) (hd : a.defers = []) : a = ⟨((List.range n).map fun k => a.eval (.tmp k)).toArray, []⟩ := by
 obtain ⟨tmps, defers⟩ := a
 simp only at hn hd
 subst hd
 congr 1
 apply Array.ext
 ·simp [hn]
 ·intro i h1 h2
  simp [Act.eval, h1]
end
section
section
variable {ev : Operand → Value} {o : Oper} {w : World}
theorem ex_move {x : Operand} {v : Value} (ho : o.op = .move x) (hx : ev x = v) : (execOp ev o).run Tryz.prog w = .ok (.value v) w := by simp [execOp, ho, hx]
theorem ex_assign {x : Operand} {v : Value} (ho : o.op = .assign x) (hx : ev x = v) : (execOp ev o).run Tryz.prog w = .ok (.value v) w := by simp [execOp, ho, hx]
theorem ex_extract {x : Operand} {vs : Array Value} {i : Nat} {v : Value} (ho : o.op = .extract x i) (hx : ev x = .tuple vs) (hv : vs[i]? = some v) : (execOp ev o).run Tryz.prog w = .ok (.value v) w := by
 simp [execOp, ho, hx, go_sem, hv]
theorem ex_load {x : Operand} {ty : TypeId} {a : Addr} {v : Value} (ho : o.op = .load ty x) (hx : ev x = .pointer (some a)) (hagg : (isAgg ty).run Tryz.prog w = .ok false w) (hc : w.cell? a = some v) : (execOp ev o).run Tryz.prog w = .ok (.value v) w := by
 simp [execOp, ho, hx, Instr.loadAt, Instr.sureAddr, loadVar, Sem.run_bind, hagg, go_sem, hc]
theorem ex_field {x : Operand} {b k q : Nat} {ty : TypeId} (ho : o.op = .fieldAddr ty x k) (hx : ev x = .pointer (some ⟨b, 0, none⟩)) (hf : (Instr.fieldAt ty (.pointer (some ⟨b, 0, none⟩)) k).run Tryz.prog w = .ok (.pointer (some ⟨b, q, none⟩)) w) : (execOp ev o).run Tryz.prog w = .ok (.value (.pointer (some ⟨b, q, none⟩))) w := by
 simp [execOp, ho, hx, hf]
theorem alloc46 (ho : o.op = .alloc 69) : (execOp ev o).run Tryz.prog w = .ok (.value (.pointer (some ⟨w.heap.size, 0, none⟩))) (w.alloc (.cells [Value.int .i64 0, .int .i64 0, .int .i64 0, .int .u64 0, .int .u64 0, .bool false].toArray 69)) := by
 simp [execOp, ho, go_sem]
theorem wp_call {P : Program} {a : Act} {K : Act → World → Prop} {Q : Exit → Act → World → Prop} {f : FuncId} {args : Array Value} (hrun : (execOp a.eval o).run P w = .ok (.enter f args) w) (hc : Calls P f args w fun e w' => ∃ v, e = .returned v ∧ K (a.put o.dst v) w') : o.wp P a w K Q := by
 unfold Oper.wp
 rw [hrun, Oper.upon_enter]
 exact hc.mono (fun e w' ⟨v, he, hk⟩ => by subst he; exact hk)
theorem call4 {f : FuncId} {x0 x1 x2 x3 : Operand} {ts : Array TypeId} {v0 v1 v2 v3 : Value} (ho : o.op = Op.call { callee := Callee.value (Operand.func f), args := #[x0, x1, x2, x3], argTypes := ts }) (h0 : ev x0 = v0) (h1 : ev x1 = v1) (h2 : ev x2 = v2) (h3 : ev x3 = v3) (hf : ev (Operand.func f) = .func (.func f) #[] #[]) (hcf : (callFunc f #[v0, v1, v2, v3]).run Tryz.prog w = .ok (.enter f #[v0, v1, v2, v3]) w) :
  (execOp ev o).run Tryz.prog w = .ok (.enter f #[v0, v1, v2, v3]) w := by
 simp [execOp, ho, h0, h1, h2, h3, hf, resolve, invoke, go_sem, hcf]
theorem call2 {f : FuncId} {x0 x1 : Operand} {ts : Array TypeId} {v0 v1 : Value} (ho : o.op = Op.call { callee := Callee.value (Operand.func f), args := #[x0, x1], argTypes := ts }) (h0 : ev x0 = v0) (h1 : ev x1 = v1) (hf : ev (Operand.func f) = .func (.func f) #[] #[]) (hcf : (callFunc f #[v0, v1]).run Tryz.prog w = .ok (.enter f #[v0, v1]) w) :
  (execOp ev o).run Tryz.prog w = .ok (.enter f #[v0, v1]) w := by
 simp [execOp, ho, h0, h1, hf, resolve, invoke, go_sem, hcf]
theorem ex_load_row {x : Operand} {ty : TypeId} {b off : Nat} {cs : List Value} {d : TypeDesc} (ho : o.op = .load ty x) (hx : ev x = .pointer (some ⟨b, off, none⟩)) (hc : w.rangeAt b off cs) (hu : Tryz.prog.underlying ty = some d) (hd : d.isRow = true) (hi : (Tryz.prog.info? ty).map (·.size) = some cs.length) :
  (execOp ev o).run Tryz.prog w = .ok (.value (.agg cs.toArray)) w := by
 simp [execOp, ho, hx, run_loadAt_mid w b off ty cs d hc hu hd hi]
end
end
section
namespace Reg
theorem notD {b : Bool} (h : b = false) : ¬ b = true := by simp [h]
structure TabL where
 ks : List (Nat × Nat)
 vals : Nat → Value
 kc : Nat
 sc : Nat
 vc : Value
 as_ : List (Nat × Nat)
 aty : Nat → TypeId × List Value
 ss : List (Nat × Nat)
 sv : Nat → List Value
def look (l : List (Nat × Nat)) (i : Nat) : Option Nat := (l.find? (fun p => p.1 == i)).map (·.2)
theorem look_mem {l : List (Nat × Nat)} {i d : Nat} (h : look l i = some d) : (i, d) ∈ l := by
 unfold look at h
 obtain ⟨p, hp, hd⟩ := Option.map_eq_some_iff.1 h
 have h1 := List.find?_some hp
 have h2 := List.mem_of_find?_eq_some hp
 simp at h1
 subst h1; subst hd
 exact h2
def TabL.tab (t : TabL) : Tab where
 pv i := (look t.ks i).map (fun d => (d, t.vals i))
 kc := t.kc
 sc := t.sc
 vc := t.vc
 al i := (look t.as_ i).map (fun s => (s, (t.aty i).1, (t.aty i).2))
 so i := (look t.ss i).map (fun j => (j, t.sv i))
 D k := (t.ks.any (fun p => p.2 == k) || (t.sc == k || t.as_.any (fun p => p.2 == k))) = true
def TabL.good (t : TabL) : Bool :=
 (t.ks.all fun p => p.2 != t.sc && p.1 != t.kc && (t.ks.all fun q => p.1 == q.1 || p.2 != q.2) && (t.as_.all fun q => p.2 != q.2 && p.1 != q.1) && (t.ss.all fun q => p.1 != q.1)) &&
 (t.as_.all fun p => p.2 != t.sc && p.1 != t.kc && (t.as_.all fun q => p.1 == q.1 || p.2 != q.2) && (t.ss.all fun q => p.1 != q.1)) &&
 (t.ss.all fun p => p.1 != t.kc && (look t.as_ p.2).isSome && (t.ss.all fun q => p.2 != q.2 || p.1 == q.1))
theorem TabL.ok (t : TabL) (hg : t.good = true) (hz : ∀ i j, (i, j) ∈ t.ss → (t.aty j).2.length = (t.sv i).length) : t.tab.Ok := by
 simp only [TabL.good, Bool.and_eq_true, List.all_eq_true, bne_iff_ne, Bool.or_eq_true, beq_iff_eq] at hg
 obtain ⟨⟨hk, ha⟩, hs⟩ := hg
 have pv : ∀ {i d v}, t.tab.pv i = some (d, v) → (i, d) ∈ t.ks := fun {i d v} h => by
  obtain ⟨d', h1, h2⟩ := Option.map_eq_some_iff.1 h
  cases h2; exact look_mem h1
 have al : ∀ {i s ty z}, t.tab.al i = some (s, ty, z) → (i, s) ∈ t.as_ := fun {i s ty z} h => by
  obtain ⟨d', h1, h2⟩ := Option.map_eq_some_iff.1 h
  cases h2; exact look_mem h1
 have so : ∀ {i j l}, t.tab.so i = some (j, l) → (i, j) ∈ t.ss ∧ l = t.sv i := fun {i j l} h => by
  obtain ⟨d', h1, h2⟩ := Option.map_eq_some_iff.1 h
  cases h2; exact ⟨look_mem h1, rfl⟩
 refine ⟨fun i d v h => ?_, ?_, fun i s ty z h => ?_, fun i j d v d' v' h h' hne => ?_, fun i j d v s ty z h h' => ?_, fun i j s ty z s' ty' z' h h' hne => ?_, fun i j d v y h h' => ?_, fun i j x y h h' => ?_, fun j y h => ?_, fun i j l h => ?_, fun i i' j l l' h h' => ?_⟩
 ·obtain ⟨⟨⟨⟨h1, h2⟩, _⟩, _⟩, _⟩ := hk _ (pv h)
  exact ⟨by simp only [TabL.tab, Bool.or_eq_true, List.any_eq_true, beq_iff_eq]; exact .inl ⟨_, pv h, rfl⟩, h1, h2⟩
 ·simp [TabL.tab]
 ·obtain ⟨⟨⟨h1, h2⟩, _⟩, _⟩ := ha _ (al h)
  exact ⟨by simp only [TabL.tab, Bool.or_eq_true, List.any_eq_true, beq_iff_eq]; exact .inr (.inr ⟨_, al h, rfl⟩), h1, h2⟩
 ·obtain ⟨⟨⟨_, h3⟩, _⟩, _⟩ := hk _ (pv h)
  rcases h3 _ (pv h') with e | e
  ·exact absurd e hne
  ·exact e
 ·obtain ⟨⟨_, h4⟩, _⟩ := hk _ (pv h)
  exact h4 _ (al h')
 ·obtain ⟨⟨_, h3⟩, _⟩ := ha _ (al h)
  rcases h3 _ (al h') with e | e
  ·exact absurd e hne
  ·exact e
 ·obtain ⟨_, h5⟩ := hk _ (pv h)
  obtain ⟨j', l⟩ := y
  exact h5 _ (so h').1
 ·obtain ⟨s, ty, z⟩ := x
  obtain ⟨j', l⟩ := y
  obtain ⟨_, h4⟩ := ha _ (al h)
  exact h4 _ (so h').1
 ·obtain ⟨j', l⟩ := y
  exact (hs _ (so h).1).1.1
 ·obtain ⟨hm, rfl⟩ := so h
  obtain ⟨⟨_, h2⟩, _⟩ := hs _ hm
  obtain ⟨s, hs'⟩ := Option.isSome_iff_exists.1 h2
  exact ⟨s, (t.aty j).1, (t.aty j).2, by show (look t.as_ j).map _ = _; simp only at hs'; rw [hs']; rfl, hz i j hm⟩
 ·obtain ⟨_, h3⟩ := hs _ (so h).1
  rcases h3 _ (so h').1 with e | e
  ·exact absurd rfl e
  ·exact e
end Reg
end
section
namespace RetN
def pv (ks : List (Nat × Nat)) (vals : Nat → Value) (i : Nat) : Option (Nat × Value) := (Reg.look ks i).map (fun d => (d, vals i))
def D (ks : List (Nat × Nat)) (k : Nat) : Prop := (ks.any (fun p => p.2 == k)) = true
structure In (ks : List (Nat × Nat)) (vals : Nat → Value) (w0 : World) (a0 : Act) (C E iC iE : Nat) (lt ls : List Value) (L : Nat → Bool) (a : Act) (w : World) : Prop where
 sz : a.tmps.size = a0.tmps.size
 df : a.defers = a0.defers
 fix : ∀ k, ¬ D ks k → a.eval (.tmp k) = a0.eval (.tmp k)
 pure : ∀ i d v, pv ks vals i = some (d, v) → L i = true → a.eval (.tmp d) = v
 tch : Touch w0 w (fun k => k = C ∨ k = E)
 tC : w.there C 0 lt.length
 tE : w.there E 0 ls.length
 sC : L iC = true → w.rangeAt C 0 lt
 sE : L iE = true → w.rangeAt E 0 ls
end RetN
end
section
namespace RetC
open RetN (pv D)
structure In (ks : List (Nat × Nat)) (vals : Nat → Value) (kc sc : Nat) (vc : Value) (WI : Bool → World → Prop) (a0 : Act) (E iE : Nat) (ls : List Value) (L : Nat → Bool) (a : Act) (w : World) : Prop where
 sz : a.tmps.size = a0.tmps.size
 df : a.defers = a0.defers
 fix : ∀ k, ¬ D ks k → k ≠ sc → a.eval (.tmp k) = a0.eval (.tmp k)
 pure : ∀ i d v, pv ks vals i = some (d, v) → L i = true → a.eval (.tmp d) = v
 call : L kc = true → a.eval (.tmp sc) = vc
 dep : L iE = true → L kc = true
 world : WI (L kc) w
 tE : w.there E 0 ls.length
 sE : L iE = true → w.rangeAt E 0 ls
end RetC
theorem call6 {ev : Operand → Value} {o : Oper} {w : World} {f : FuncId} {x0 x1 x2 x3 x4 x5 : Operand} {ts : Array TypeId} {v0 v1 v2 v3 v4 v5 : Value} (ho : o.op = Op.call { callee := Callee.value (Operand.func f), args := #[x0, x1, x2, x3, x4, x5], argTypes := ts }) (h0 : ev x0 = v0) (h1 : ev x1 = v1) (h2 : ev x2 = v2) (h3 : ev x3 = v3) (h4 : ev x4 = v4) (h5 : ev x5 = v5) (hf : ev (Operand.func f) = .func (.func f) #[] #[]) (hcf : (callFunc f #[v0, v1, v2, v3, v4, v5]).run Tryz.prog w = .ok (.enter f #[v0, v1, v2, v3, v4, v5]) w) :
  (execOp ev o).run Tryz.prog w = .ok (.enter f #[v0, v1, v2, v3, v4, v5]) w := by
 simp [execOp, ho, h0, h1, h2, h3, h4, h5, hf, resolve, invoke, go_sem, hcf]
theorem ex_nil {ev : Operand → Value} {o : Oper} {w : World} {x : Operand} {a : Addr} (ho : o.op = .nilCheck x) (hx : ev x = .pointer (some a)) : (execOp ev o).run Tryz.prog w = .ok (.value (.pointer (some a))) w := by
 simp [execOp, ho, hx, go_sem]
end
end Go.Proofs.YtppgbndoijppnaaGreat
