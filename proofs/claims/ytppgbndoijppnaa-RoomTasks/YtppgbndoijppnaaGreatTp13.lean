/-
  Lemmas: Lb0, LtR, LtH, LtE.
-/
import Derived.Test.YtppgbndoijppnaaGreatTp12
import Derived.Test.YtppgbndoijppnaaGreatTp11
import Derived.Deep.RegionWith
import Derived.Deep.RegionHeld
import Derived.Deep.Light
import Derived.Laws.Bits64
import Derived.Deep.QuietTactic
import Derived.BigQuiet
import Derived.Deep.CutBlock
import Derived.Deep.CutRange
import Derived.Orders
import Derived.Maps.AppendAt
namespace Go.Proofs.YtppgbndoijppnaaGreat
set_option maxHeartbeats 8000000
open Go.RowKit
set_option linter.unusedVariables false
set_option linter.unusedSimpArgs false
set_option linter.unnecessarySimpa false
section
end
section
namespace Lt
def cnt (g : Nat → Bool) : Nat → Nat
 | 0 => 0
 | i + 1 => cnt g i + (if g i then 1 else 0)
theorem cnt_le (g : Nat → Bool) : ∀ i, cnt g i ≤ i
 | 0 => Nat.le_refl _
 | i + 1 => by have := cnt_le g i; simp only [cnt]; split <;> omega
theorem cnt_zero {g : Nat → Bool} : ∀ {n : Nat}, cnt g n = 0 → ∀ i, i < n → g i = false
 | 0, _, i, hi => absurd hi (by omega)
 | n + 1, h, i, hi => by
  simp only [cnt] at h
  cases hn : g n with
  | true => rw [hn] at h; simp at h
  | false =>
   by_cases e : i = n
   ·subst e; exact hn
   ·exact cnt_zero (n := n) (by rw [hn] at h; simpa using h) i (by omega)
def up (L : Nat → Bool) (i : Nat) : Nat → Bool := fun j => if j = i then true else L j
theorem up_same (L : Nat → Bool) (i : Nat) : up L i i = true := by simp [up]
theorem up_other (L : Nat → Bool) {i j : Nat} (h : j ≠ i) : up L i j = L j := by simp [up, h]
theorem cnt_up {L : Nat → Bool} {i : Nat} (hi : L i = false) : ∀ n, cnt (fun j => !(up L i) j) n + (if i < n then 1 else 0) = cnt (fun j => !L j) n
 | 0 => by simp [cnt]
 | n + 1 => by
  have ih := cnt_up hi n
  simp only [cnt]
  by_cases h : n = i
  ·subst h
   simp only [up_same, Nat.lt_irrefl, if_false, Nat.add_zero] at ih ⊢
   simp [hi, ih]
  ·have hu : up L i n = L n := up_other _ h
   have : (i < n + 1) = (i < n) := by apply propext; omega
   simp only [this, hu]
   omega
def lis (listed : Array Bool) : Nat → Bool := fun i => listed.getD i false
theorem lis_set {listed : Array Bool} {i : Nat} (hi : i < listed.size) : lis (listed.setIfInBounds i true) = up (lis listed) i := by
 funext j
 by_cases h : j = i
 ·subst h; simp [lis, hi, up]
 ·rw [up_other _ h]
  simp [lis, Array.getElem?_setIfInBounds_ne (Ne.symm h)]
section
variable {P : Program} {ops : Array Oper} {Q : Exit → Act → World → Prop} {md : Region.Mode}
theorem wpAny_inv (hback : ∀ (i : Nat) (o : Oper), ops[i]? = some o → ∀ e ∈ o.after, Region.binds md e = true → e.on < i) (I : (Nat → Bool) → Act → World → Prop)
  (hstep : ∀ (L : Nat → Bool) (a : Act) (w : World) (i : Nat) (o : Oper), I L a w → ops[i]? = some o → L i = false → (∀ e ∈ o.after, Region.binds md e = true → L e.on = true) → (Region.wanted o (yielded ops a.tmps) = true ∧ o.wp P a w (fun a' w' => I (up L i) a' w') Q) ∨ (Region.wanted o (yielded ops a.tmps) = false ∧ I (up L i) (a.put o.dst undef) w))
  (hend : ∀ (L : Nat → Bool) (a : Act) (w : World), I L a w → (∀ i, i < ops.size → L i = true) → Q .normal a w) :
  ∀ fuel listed a w, listed.size = ops.size → cnt (fun i => !(lis listed) i) ops.size ≤ fuel → I (lis listed) a w → wpAny P md ops Q fuel listed a w := by
 have none_ready : ∀ listed : Array Bool, listed.size = ops.size → Region.ready md ops listed = [] → ∀ i, i < ops.size → lis listed i = true := by
  intro listed hsz hr i
  induction i using Nat.strongRecOn with
  | ind i ih =>
   intro hi
   cases hl : lis listed i with
   | true => rfl
   | false =>
    exfalso
    have hm : i ∈ Region.ready md ops listed := by
     rw [mem_ready]
     refine ⟨?_, ops[i], by simp [hi], fun e he hb => ?_⟩
     ·have hlt : i < listed.size := by omega
      simp only [lis] at hl
      simpa [hlt] using hl
     ·have hlt := hback i ops[i] (by simp [hi]) e he hb
      exact ih e.on hlt (by omega)
    rw [hr] at hm
    cases hm
 intro fuel
 induction fuel with
 | zero =>
  intro listed a w hsz hc hI
  have hall : ∀ i, i < ops.size → lis listed i = true := fun i hi => by
   have := cnt_zero (g := fun i => !(lis listed) i) (n := ops.size) (by omega) i hi
   simpa using this
  refine ⟨?_, hend _ a w hI hall⟩
  cases hr : Region.ready md ops listed with
  | nil => rfl
  | cons x xs =>
   exfalso
   have hx : x ∈ Region.ready md ops listed := by rw [hr]; simp
   rw [mem_ready] at hx
   obtain ⟨h0, o, ho, _⟩ := hx
   have hlt : x < ops.size := (Array.getElem?_eq_some_iff.1 ho).1
   have := hall x hlt
   have hlt' : x < listed.size := by omega
   simp [lis, hlt'] at this
   simp [hlt'] at h0
   rw [h0] at this
   cases this
 | succ fuel ih =>
  intro listed a w hsz hc hI
  refine ⟨fun hr => hend _ a w hI (none_ready listed hsz hr), fun i hi => ?_⟩
  rw [mem_ready] at hi
  obtain ⟨h0, o, ho, hdep⟩ := hi
  have hlt : i < ops.size := (Array.getElem?_eq_some_iff.1 ho).1
  have hlt' : i < listed.size := by omega
  have hf : lis listed i = false := by simp [hlt'] at h0; simp [lis, hlt', h0]
  have hs := hstep (lis listed) a w i o hI ho hf hdep
  have go : ∀ a' w', I (up (lis listed) i) a' w' → wpAny P md ops Q fuel (listed.setIfInBounds i true) a' w' := fun a' w' h => by
   refine ih _ a' w' (by simpa using hsz) ?_ (by rw [lis_set hlt']; exact h)
   rw [lis_set hlt']
   have := cnt_up hf ops.size
   rw [if_pos hlt] at this
   omega
  unfold wpOp
  simp only [ho]
  rcases hs with ⟨hw, hs⟩ | ⟨hw, hs⟩
  ·rw [if_pos hw]
   left
   exact Oper.wp_mono go hs
  ·rw [hw]
   simp only [Bool.false_eq_true, if_false]
   exact go _ _ hs
theorem region_inv {id : Nat} {a : Act} {w : World} (hm : P.follows .mixedOrders = true) (hback : ∀ (i : Nat) (o : Oper), ops[i]? = some o → ∀ e ∈ o.after, Region.binds .any e = true → e.on < i) (I : (Nat → Bool) → Act → World → Prop)
  (hstep : ∀ (L : Nat → Bool) (a : Act) (w : World) (i : Nat) (o : Oper), I L a w → ops[i]? = some o → L i = false → (∀ e ∈ o.after, Region.binds .any e = true → L e.on = true) → (Region.wanted o (yielded ops a.tmps) = true ∧ o.wp P a w (fun a' w' => I (up L i) a' w') Q) ∨ (Region.wanted o (yielded ops a.tmps) = false ∧ I (up L i) (a.put o.dst undef) w))
  (hend : ∀ (L : Nat → Bool) (a : Act) (w : World), I L a w → (∀ i, i < ops.size → L i = true) → Q .normal a w)
  (h0 : I (fun _ => false) a { w with drawn := w.drawn + 1 }) : (Code.region id ops true).wp P Q a w := by
 refine wp_region_any hm (wpAny_inv hback I hstep hend _ _ a _ (by simp) ?_ ?_)
 ·exact cnt_le _ _
 ·have : lis (Array.replicate ops.size false) = fun _ => false := by
   funext i
   simp [lis, Array.getElem?_replicate]
   split <;> rfl
  rw [this]
  exact h0
end
theorem put_eval {a : Act} {d : Nat} {v : Value} (h : d < a.tmps.size) : (a.put (some d) v).eval (.tmp d) = v := by
 simp [Act.put, Act.eval, h]
theorem put_other {a : Act} {d k : Nat} {v : Value} (h : k ≠ d) : (a.put (some d) v).eval (.tmp k) = a.eval (.tmp k) :=
 Act.eval_put (fun d' hd he => by cases hd; cases he; exact h rfl)
theorem put_size {a : Act} {d : Option Nat} {v : Value} : (a.put d v).tmps.size = a.tmps.size := by
 cases d <;> simp [Act.put]
theorem put_defs {a : Act} {d : Option Nat} {v : Value} : (a.put d v).defers = a.defers := by
 cases d <;> rfl
def look (l : List (Nat × Nat)) (i : Nat) : Option Nat := (l.find? (fun p => p.1 == i)).map (·.2)
theorem look_mem {l : List (Nat × Nat)} {i d : Nat} (h : look l i = some d) : (i, d) ∈ l := by
 unfold look at h
 obtain ⟨p, hp, hd⟩ := Option.map_eq_some_iff.1 h
 have h1 := List.find?_some hp
 have h2 := List.mem_of_find?_eq_some hp
 simp at h1
 subst h1; subst hd
 exact h2
theorem notD {b : Bool} (h : b = false) : ¬ b = true := by simp [h]
def pv (ks : List (Nat × Nat)) (vals : Nat → Value) (i : Nat) : Option (Nat × Value) := (look ks i).map (fun d => (d, vals i))
def D (ks : List (Nat × Nat)) (k : Nat) : Prop := (ks.any (fun p => p.2 == k)) = true
structure In (ks : List (Nat × Nat)) (vals : Nat → Value) (WI : World → Prop) (a0 : Act) (L : Nat → Bool) (a : Act) (w : World) : Prop where
 sz : a.tmps.size = a0.tmps.size
 df : a.defers = a0.defers
 fix : ∀ k, ¬ D ks k → a.eval (.tmp k) = a0.eval (.tmp k)
 pure : ∀ i d v, pv ks vals i = some (d, v) → L i = true → a.eval (.tmp d) = v
 world : WI w
abbrev Deps (o : Oper) (L : Nat → Bool) : Prop := ∀ e ∈ o.after, Region.binds .any e = true → L e.on = true
inductive Does (P : Program) (Q : Exit → Act → World → Prop) (ops : Array Oper) (ks : List (Nat × Nat)) (vals : Nat → Value) (WI : World → Prop) (a0 : Act) (i : Nat) (o : Oper) : Prop where
 | run (dst : o.dst = look ks i) (wn : ∀ L a w, In ks vals WI a0 L a w → Deps o L → Region.wanted o (yielded ops a.tmps) = true) (wp : ∀ L a w (K : Act → World → Prop), In ks vals WI a0 L a w → Deps o L → (∀ w' v, (∀ d, o.dst = some d → v = vals i) → WI w' → K (a.put o.dst v) w') → o.wp P a w K Q)
 | skip (dst : o.dst = look ks i) (wn : ∀ L a w, In ks vals WI a0 L a w → Deps o L → Region.wanted o (yielded ops a.tmps) = false) (hv : vals i = undef)
theorem region {P : Program} {id : Nat} {ops : Array Oper} {Q : Exit → Act → World → Prop} {ks : List (Nat × Nat)} {vals : Nat → Value} {WI : World → Prop} {w0 : World} {a0 : Act}
  (hm : P.follows .mixedOrders = true) (hback : ∀ (i : Nat) (o : Oper), ops[i]? = some o → ∀ e ∈ o.after, Region.binds .any e = true → e.on < i)
  (hgood : (ks.all fun p => ks.all fun q => p.1 == q.1 || p.2 != q.2) = true) (hD : ∀ k, D ks k → k < a0.tmps.size) (hW0 : WI { w0 with drawn := w0.drawn + 1 })
  (does : ∀ (i : Nat) (o : Oper), ops[i]? = some o → Does P Q ops ks vals WI a0 i o)
  (fin : ∀ L a w, In ks vals WI a0 L a w → (∀ i, i < ops.size → L i = true) → Q .normal a w) :
  (Code.region id ops true).wp P Q a0 w0 := by
 simp only [List.all_eq_true, bne_iff_ne, Bool.or_eq_true, beq_iff_eq] at hgood
 have pvm : ∀ {i d v}, pv ks vals i = some (d, v) → (i, d) ∈ ks := fun {i d v} h => by
  obtain ⟨d', h1, h2⟩ := Option.map_eq_some_iff.1 h
  cases h2; exact look_mem h1
 refine region_inv hm hback (fun L a w => In ks vals WI a0 L a w) ?step (fun L a w h hall => fin L a w h hall) ?start
 case start => exact ⟨rfl, rfl, fun _ _ => rfl, fun _ _ _ _ h => (by cases h), hW0⟩
 case step =>
  rintro L a w i o h ho hL hd
  have on : ∀ w' v, o.dst = look ks i → (∀ d, o.dst = some d → v = vals i) → WI w' → In ks vals WI a0 (up L i) (a.put o.dst v) w' := fun w' v hdst hv hW => by
   cases hlk : look ks i with
   | none =>
    rw [hdst, hlk]
    refine ⟨h.sz, h.df, h.fix, fun j d' v' hj hLj => h.pure j d' v' hj ?_, hW⟩
    have hji : j ≠ i := fun e => by
     subst e
     obtain ⟨d'', h1, _⟩ := Option.map_eq_some_iff.1 hj
     rw [hlk] at h1; cases h1
    rwa [up_other _ hji] at hLj
   | some d =>
    have hv' := hv d (hdst.trans hlk)
    subst hv'
    rw [hdst, hlk]
    have hm' : (i, d) ∈ ks := look_mem hlk
    have hDd : D ks d := by simp only [D, List.any_eq_true, beq_iff_eq]; exact ⟨_, hm', rfl⟩
    have e : ∀ k : Nat, k ≠ d → (a.put (some d) (vals i)).eval (.tmp k) = a.eval (.tmp k) := fun k hk => put_other hk
    refine ⟨by rw [put_size]; exact h.sz, by rw [put_defs]; exact h.df, fun k hk => ?_, fun j d' v' hj hLj => ?_, hW⟩
    ·rw [e k (fun he => hk (he ▸ hDd))]; exact h.fix k hk
    ·by_cases hij : j = i
     ·subst hij
      rw [pv, hlk] at hj
      cases hj
      exact put_eval (by rw [h.sz]; exact hD _ hDd)
     ·rw [up_other _ hij] at hLj
      have : d' ≠ d := by
       rcases hgood _ hm' _ (pvm hj) with e1 | e1
       ·exact absurd e1.symm hij
       ·exact Ne.symm e1
      rw [e d' this]
      exact h.pure j d' v' hj hLj
  rcases does i o ho with ⟨hdst, hwn, hwp⟩ | ⟨hdst, hwn, hv⟩
  ·exact .inl ⟨hwn L a w h hd, hwp L a w _ h hd (fun w' v hv hW => on w' v hdst hv hW)⟩
  ·exact .inr ⟨hwn L a w h hd, on w undef hdst (fun _ _ => hv.symm) h.world⟩
section
variable {P : Program} {Q : Exit → Act → World → Prop} {ops : Array Oper} {ks : List (Nat × Nat)} {vals : Nat → Value} {WI : World → Prop} {a0 : Act} {i : Nat} {o : Oper}
theorem wn0 (hg : o.guard = none) {y : Nat → Option Bool} : Region.wanted o y = true := by simp [Region.wanted, hg]
theorem wnG {a : Act} {j d : Nat} {b c q : Bool} (hg : o.guard = some (j, b)) (hd : (ops[j]?).bind (·.dst) = some d) (hv : a.eval (.tmp d) = .bool c) (hq : (c == b) = q) : Region.wanted o (yielded ops a.tmps) = q := by
 have e : a.tmps[d]? = some (.bool c) := by
  cases h : a.tmps[d]? with
  | none => simp [Act.eval, h, undef] at hv
  | some v => simp [Act.eval, h] at hv; rw [hv]
 unfold Region.wanted yielded
 rw [hg]
 simp only [hd, Option.bind_some, e]
 rw [← hq]
 cases b <;> cases c <;> rfl
theorem wp_value {a : Act} {w : World} {K : Act → World → Prop} {v : Value} {w' : World} (h : (execOp a.eval o).run P w = .ok (.value v) w') (hk : K (a.put o.dst v) w') : o.wp P a w K Q := by
 unfold Oper.wp; rw [h]; exact hk
theorem wp_call {a : Act} {w : World} {K : Act → World → Prop} {f : FuncId} {args : Array Value} (hrun : (execOp a.eval o).run P w = .ok (.enter f args) w) (hc : Calls P f args w fun e w' => ∃ v, e = .returned v ∧ K (a.put o.dst v) w') : o.wp P a w K Q := by
 unfold Oper.wp
 rw [hrun, Oper.upon_enter]
 exact hc.mono (fun e w' ⟨v, he, hk⟩ => by subst he; exact hk)
theorem Does.read (hd : o.dst = look ks i) (wn : ∀ L a w, In ks vals WI a0 L a w → Deps o L → Region.wanted o (yielded ops a.tmps) = true) (h : ∀ L a w, In ks vals WI a0 L a w → Deps o L → (execOp a.eval o).run P w = .ok (.value (vals i)) w) : Does P Q ops ks vals WI a0 i o :=
 .run hd wn fun L a w K hI hdep hk => wp_value (h L a w hI hdep) (hk w _ (fun _ _ => rfl) hI.world)
theorem Does.call {f : FuncId} {args : Array Value} (hd : o.dst = look ks i) (wn : ∀ L a w, In ks vals WI a0 L a w → Deps o L → Region.wanted o (yielded ops a.tmps) = true) (h : ∀ L a w, In ks vals WI a0 L a w → Deps o L → (execOp a.eval o).run P w = .ok (.enter f args) w)
  (hc : ∀ w, WI w → Calls P f args w fun e w' => e = .returned (vals i) ∧ WI w') : Does P Q ops ks vals WI a0 i o :=
 .run hd wn fun L a w K hI hdep hk => wp_call (h L a w hI hdep) ((hc w hI.world).mono (by rintro e w' ⟨rfl, hw⟩; exact ⟨_, rfl, hk _ _ (fun _ _ => rfl) hw⟩))
end
theorem act_eq (a : Act) (l : List Value) (hd : a.defers = []) (hn : a.tmps.size = l.length) (h : ∀ k, k < l.length → a.eval (.tmp k) = l.getD k undef) : a = ⟨l.toArray, []⟩ := by
 obtain ⟨tmps, defers⟩ := a
 simp only at hn hd
 subst hd
 congr 1
 apply Array.ext
 ·simp [hn]
 ·intro i h1 h2
  have := h i (by omega)
  have h3 : i < l.length := by omega
  simpa [Act.eval, h1, h3] using this
section
variable {ev : Operand → Value} {o : Oper} {w : World}
theorem ex_move {x : Operand} {v : Value} (ho : o.op = .move x) (hx : ev x = v) : (execOp ev o).run Tryz.prog w = .ok (.value v) w := by simp [execOp, ho, hx]
theorem ex_assign {x : Operand} {v : Value} (ho : o.op = .assign x) (hx : ev x = v) : (execOp ev o).run Tryz.prog w = .ok (.value v) w := by simp [execOp, ho, hx]
theorem ex_extract {x : Operand} {vs : Array Value} {i : Nat} {v : Value} (ho : o.op = .extract x i) (hx : ev x = .tuple vs) (hv : vs[i]? = some v) : (execOp ev o).run Tryz.prog w = .ok (.value v) w := by
 simp [execOp, ho, hx, go_sem, hv]
theorem ex_pick {x y z : Operand} {b : Bool} {v : Value} (ho : o.op = .pick x y z) (hx : ev x = .bool b) (hv : (if b = true then ev y else ev z) = v) : (execOp ev o).run Tryz.prog w = .ok (.value v) w := by
 cases b <;> simp at hv <;> simp [execOp, ho, hx, hv, go_sem]
theorem ex_load {x : Operand} {ty : TypeId} {a : Addr} {v : Value} (ho : o.op = .load ty x) (hx : ev x = .pointer (some a)) (hagg : (isAgg ty).run Tryz.prog w = .ok false w) (hc : w.cell? a = some v) : (execOp ev o).run Tryz.prog w = .ok (.value v) w := by
 simp [execOp, ho, hx, Instr.loadAt, Instr.sureAddr, loadVar, Sem.run_bind, hagg, go_sem, hc]
theorem ex_field {x : Operand} {b k q : Nat} {ty : TypeId} (ho : o.op = .fieldAddr ty x k) (hx : ev x = .pointer (some ⟨b, 0, none⟩)) (hf : (Instr.fieldAt ty (.pointer (some ⟨b, 0, none⟩)) k).run Tryz.prog w = .ok (.pointer (some ⟨b, q, none⟩)) w) : (execOp ev o).run Tryz.prog w = .ok (.value (.pointer (some ⟨b, q, none⟩))) w := by
 simp [execOp, ho, hx, hf]
theorem call1 {f : FuncId} {x0 : Operand} {ts : Array TypeId} {v0 : Value} (ho : o.op = Op.call { callee := Callee.value (Operand.func f), args := #[x0], argTypes := ts }) (h0 : ev x0 = v0) (hf : ev (Operand.func f) = .func (.func f) #[] #[]) (hcf : (callFunc f #[v0]).run Tryz.prog w = .ok (.enter f #[v0]) w) :
  (execOp ev o).run Tryz.prog w = .ok (.enter f #[v0]) w := by
 simp [execOp, ho, h0, hf, resolve, invoke, go_sem, hcf]
theorem call2 {f : FuncId} {x0 x1 : Operand} {ts : Array TypeId} {v0 v1 : Value} (ho : o.op = Op.call { callee := Callee.value (Operand.func f), args := #[x0, x1], argTypes := ts }) (h0 : ev x0 = v0) (h1 : ev x1 = v1) (hf : ev (Operand.func f) = .func (.func f) #[] #[]) (hcf : (callFunc f #[v0, v1]).run Tryz.prog w = .ok (.enter f #[v0, v1]) w) :
  (execOp ev o).run Tryz.prog w = .ok (.enter f #[v0, v1]) w := by
 simp [execOp, ho, h0, h1, hf, resolve, invoke, go_sem, hcf]
theorem call3 {f : FuncId} {x0 x1 x2 : Operand} {ts : Array TypeId} {v0 v1 v2 : Value} (ho : o.op = Op.call { callee := Callee.value (Operand.func f), args := #[x0, x1, x2], argTypes := ts }) (h0 : ev x0 = v0) (h1 : ev x1 = v1) (h2 : ev x2 = v2) (hf : ev (Operand.func f) = .func (.func f) #[] #[]) (hcf : (callFunc f #[v0, v1, v2]).run Tryz.prog w = .ok (.enter f #[v0, v1, v2]) w) :
  (execOp ev o).run Tryz.prog w = .ok (.enter f #[v0, v1, v2]) w := by
 simp [execOp, ho, h0, h1, h2, hf, resolve, invoke, go_sem, hcf]
theorem call4 {f : FuncId} {x0 x1 x2 x3 : Operand} {ts : Array TypeId} {v0 v1 v2 v3 : Value} (ho : o.op = Op.call { callee := Callee.value (Operand.func f), args := #[x0, x1, x2, x3], argTypes := ts }) (h0 : ev x0 = v0) (h1 : ev x1 = v1) (h2 : ev x2 = v2) (h3 : ev x3 = v3) (hf : ev (Operand.func f) = .func (.func f) #[] #[]) (hcf : (callFunc f #[v0, v1, v2, v3]).run Tryz.prog w = .ok (.enter f #[v0, v1, v2, v3]) w) :
  (execOp ev o).run Tryz.prog w = .ok (.enter f #[v0, v1, v2, v3]) w := by
 simp [execOp, ho, h0, h1, h2, h3, hf, resolve, invoke, go_sem, hcf]
theorem ex_addI {x y : Operand} {m n z : Int} (ho : o.op = .binOp .add 3 x y 3) (hx : ev x = .int .i64 m) (hy : ev y = .int .i64 n) (hz : IntKind.i64.wrap (m + n) = z) : (execOp ev o).run Tryz.prog w = .ok (.value (.int .i64 z)) w := by
 subst hz; simp [execOp, ho, hx, hy, go_sem]
theorem ex_subI {x y : Operand} {m n z : Int} (ho : o.op = .binOp .sub 3 x y 3) (hx : ev x = .int .i64 m) (hy : ev y = .int .i64 n) (hz : IntKind.i64.wrap (m - n) = z) : (execOp ev o).run Tryz.prog w = .ok (.value (.int .i64 z)) w := by
 subst hz; simp [execOp, ho, hx, hy, go_sem]
theorem ex_mulI {x y : Operand} {m n z : Int} (ho : o.op = .binOp .mul 3 x y 3) (hx : ev x = .int .i64 m) (hy : ev y = .int .i64 n) (hz : IntKind.i64.wrap (m * n) = z) : (execOp ev o).run Tryz.prog w = .ok (.value (.int .i64 z)) w := by
 subst hz; simp [execOp, ho, hx, hy, go_sem]
theorem isRow_of {ty : TypeId} (h : (Tryz.prog.underlying ty).map (fun d => d.isRow) = some true) : ∃ d, Tryz.prog.underlying ty = some d ∧ d.isRow = true := Option.map_eq_some_iff.1 h
theorem ex_load_row {x : Operand} {ty : TypeId} {b off : Nat} {cs : List Value} (ho : o.op = .load ty x) (hx : ev x = .pointer (some ⟨b, off, none⟩)) (hc : w.rangeAt b off cs) (hu : (Tryz.prog.underlying ty).map (fun d => d.isRow) = some true) (hi : (Tryz.prog.info? ty).map (·.size) = some cs.length) :
  (execOp ev o).run Tryz.prog w = .ok (.value (.agg cs.toArray)) w := by
 obtain ⟨d, h1, h2⟩ := isRow_of hu
 simp [execOp, ho, hx, run_loadAt_mid w b off ty cs d hc h1 h2 hi]
end
end Lt
end
section
namespace LtH
open Lt hiding In Does region
structure In (ks : List (Nat × Nat)) (vals : Nat → Value) (xs : List Nat) (WI : (Nat → Bool) → (Nat → Value) → World → Prop) (a0 : Act) (L : Nat → Bool) (a : Act) (w : World) : Prop where
 sz : a.tmps.size = a0.tmps.size
 df : a.defers = a0.defers
 fix : ∀ k, ¬ D ks k → xs.contains k = false → a.eval (.tmp k) = a0.eval (.tmp k)
 pure : ∀ i d v, pv ks vals i = some (d, v) → L i = true → a.eval (.tmp d) = v
 world : WI L (fun k => a.eval (.tmp k)) w
inductive Does (P : Program) (Q : Exit → Act → World → Prop) (ks : List (Nat × Nat)) (vals : Nat → Value) (xs : List Nat) (WI : (Nat → Bool) → (Nat → Value) → World → Prop) (a0 : Act) (i : Nat) (o : Oper) : Prop where
 | mk (dst : o.dst = Lt.look ks i) (wp : ∀ L a w (K : Act → World → Prop), In ks vals xs WI a0 L a w → L i = false → (∀ e ∈ o.after, Region.binds .any e = true → L e.on = true) → (∀ w' v, (∀ d, o.dst = some d → v = vals i) → WI (up L i) (fun k => a.eval (.tmp k)) w' → K (a.put o.dst v) w') → o.wp P a w K Q)
 | own (x : Nat) (dst : o.dst = some x) (hx : xs.contains x = true) (no : Lt.look ks i = none) (wp : ∀ L a w (K : Act → World → Prop), In ks vals xs WI a0 L a w → L i = false → (∀ e ∈ o.after, Region.binds .any e = true → L e.on = true) → (∀ w' v, WI (up L i) (fun k => if k = x then v else a.eval (.tmp k)) w' → K (a.put (some x) v) w') → o.wp P a w K Q)
theorem region2 {P : Program} {id : Nat} {ops : Array Oper} {Q : Exit → Act → World → Prop} {ks : List (Nat × Nat)} {vals : Nat → Value} {xs : List Nat} {WI : (Nat → Bool) → (Nat → Value) → World → Prop} {w0 : World} {a0 : Act}
  (hm : P.follows .mixedOrders = true) (hg : ∀ (i : Nat) (o : Oper), ops[i]? = some o → o.guard = none) (hback : ∀ (i : Nat) (o : Oper), ops[i]? = some o → ∀ e ∈ o.after, Region.binds .any e = true → e.on < i)
  (hgood : (ks.all fun p => (ks.all fun q => p.1 == q.1 || p.2 != q.2) && !xs.contains p.2) = true) (hD : ∀ k, D ks k → k < a0.tmps.size) (hX : ∀ k, xs.contains k = true → k < a0.tmps.size)
  (hloc : ∀ L s s' w, (∀ k, xs.contains k = true → s k = s' k) → WI L s w → WI L s' w) (hW0 : WI (fun _ => false) (fun k => a0.eval (.tmp k)) { w0 with drawn := w0.drawn + 1 })
  (does : ∀ (i : Nat) (o : Oper), ops[i]? = some o → Does P Q ks vals xs WI a0 i o)
  (fin : ∀ L a w, In ks vals xs WI a0 L a w → (∀ i, i < ops.size → L i = true) → Q .normal a w) :
  (Code.region id ops true).wp P Q a0 w0 := by
 simp only [List.all_eq_true, bne_iff_ne, Bool.or_eq_true, beq_iff_eq, Bool.and_eq_true, Bool.not_eq_true'] at hgood
 have pvm : ∀ {i d v}, pv ks vals i = some (d, v) → (i, d) ∈ ks := fun {i d v} h => by
  obtain ⟨d', h1, h2⟩ := Option.map_eq_some_iff.1 h
  cases h2; exact Lt.look_mem h1
 refine Lt.region_inv hm hback (fun L a w => In ks vals xs WI a0 L a w) ?step (fun L a w h hall => fin L a w h hall) ?start
 case start => exact ⟨rfl, rfl, fun _ _ _ => rfl, fun _ _ _ _ h => (by cases h), hW0⟩
 case step =>
  rintro L a w i o h ho hL hd
  have none_ok : ∀ {j d' v'}, Lt.look ks i = none → pv ks vals j = some (d', v') → up L i j = true → L j = true := fun {j d' v'} hlk hj hLj => by
   have hji : j ≠ i := fun e => by
    subst e
    obtain ⟨d'', h1, _⟩ := Option.map_eq_some_iff.1 hj
    rw [hlk] at h1; cases h1
   rwa [up_other _ hji] at hLj
  refine .inl ⟨by simp [Region.wanted, hg i o ho], ?_⟩
  rcases does i o ho with ⟨hdst, hwp⟩ | ⟨x, hdst, hx, hno, hwp⟩
  ·refine hwp L a w _ h hL hd (fun w' v hv hW => ?_)
   cases hlk : Lt.look ks i with
   | none =>
    rw [hdst, hlk]
    exact ⟨h.sz, h.df, h.fix, fun j d' v' hj hLj => h.pure j d' v' hj (none_ok hlk hj hLj), hW⟩
   | some d =>
    have hv' := hv d (hdst.trans hlk)
    subst hv'
    rw [hdst, hlk]
    have hm' : (i, d) ∈ ks := Lt.look_mem hlk
    have hDd : D ks d := by simp only [D, List.any_eq_true, beq_iff_eq]; exact ⟨_, hm', rfl⟩
    have e : ∀ k : Nat, k ≠ d → (a.put (some d) (vals i)).eval (.tmp k) = a.eval (.tmp k) := fun k hk => Lt.put_other hk
    refine ⟨by rw [Lt.put_size]; exact h.sz, by rw [Lt.put_defs]; exact h.df, fun k hk hkx => ?_, fun j d' v' hj hLj => ?_, hloc _ _ _ _ (fun k hk => (e k (fun he => by subst he; rw [(hgood _ hm').2] at hk; cases hk)).symm) hW⟩
    ·rw [e k (fun he => hk (he ▸ hDd))]; exact h.fix k hk hkx
    ·by_cases hij : j = i
     ·subst hij
      rw [pv, hlk] at hj
      cases hj
      exact Lt.put_eval (by rw [h.sz]; exact hD _ hDd)
     ·rw [up_other _ hij] at hLj
      have : d' ≠ d := by
       rcases (hgood _ hm').1 _ (pvm hj) with e1 | e1
       ·exact absurd e1.symm hij
       ·exact Ne.symm e1
      rw [e d' this]
      exact h.pure j d' v' hj hLj
  ·refine hwp L a w _ h hL hd (fun w' v hW => ?_)
   have e : ∀ k : Nat, k ≠ x → (a.put (some x) v).eval (.tmp k) = a.eval (.tmp k) := fun k hk => Lt.put_other hk
   have ex : (a.put (some x) v).eval (.tmp x) = v := Lt.put_eval (by rw [h.sz]; exact hX x hx)
   refine ⟨by rw [Lt.put_size]; exact h.sz, by rw [Lt.put_defs]; exact h.df, fun k hk hkx => by rw [e k (fun he => by subst he; rw [hx] at hkx; cases hkx)]; exact h.fix k hk hkx, fun j d' v' hj hLj => ?_, hloc _ _ _ _ (fun k hk => ?_) hW⟩
   ·rw [e d' (fun he => by subst he; have := (hgood _ (pvm hj)).2; rw [hx] at this; cases this)]
    exact h.pure j d' v' hj (none_ok hno hj hLj)
   ·by_cases he : k = x
    ·subst he; simp [ex]
    ·simp [he, e k he]
section
variable {P : Program} {Q : Exit → Act → World → Prop} {ks : List (Nat × Nat)} {vals : Nat → Value} {xs : List Nat} {WI : (Nat → Bool) → (Nat → Value) → World → Prop} {a0 : Act} {i : Nat} {o : Oper}
theorem Does.read (hd : o.dst = Lt.look ks i) (hW : ∀ L s w, WI L s w → WI (up L i) s w) (h : ∀ L a w, In ks vals xs WI a0 L a w → (∀ e ∈ o.after, Region.binds .any e = true → L e.on = true) → (execOp a.eval o).run P w = .ok (.value (vals i)) w) : Does P Q ks vals xs WI a0 i o :=
 .mk hd fun L a w K hI _ hdep hk => Lt.wp_value (h L a w hI hdep) (hk w _ (fun _ _ => rfl) (hW L _ w hI.world))
theorem Does.call {x : Nat} {f : FuncId} {args : Array Value} (hd : o.dst = some x) (hx : xs.contains x = true) (hn : Lt.look ks i = none) (h : ∀ L a w, In ks vals xs WI a0 L a w → (∀ e ∈ o.after, Region.binds .any e = true → L e.on = true) → (execOp a.eval o).run P w = .ok (.enter f args) w)
  (hc : ∀ L s w, WI L s w → L i = false → Calls P f args w fun e w' => ∃ v, e = .returned v ∧ WI (up L i) (fun k => if k = x then v else s k) w') : Does P Q ks vals xs WI a0 i o :=
 .own x hd hx hn fun L a w K hI hL hdep hk => Lt.wp_call (h L a w hI hdep) ((hc L _ w hI.world hL).mono (by rintro e w' ⟨v, rfl, hw⟩; exact ⟨_, rfl, by rw [hd]; exact hk _ _ hw⟩))
end
def lay (a : Act) (l : List Nat) (b : Act) : Act := l.foldl (fun b k => b.put (some k) (a.eval (.tmp k))) b
theorem lay_size (a : Act) : ∀ (l : List Nat) (b : Act), (lay a l b).tmps.size = b.tmps.size ∧ (lay a l b).defers = b.defers
 | [], b => ⟨rfl, rfl⟩
 | k :: l, b => by
  have h := lay_size a l (b.put (some k) (a.eval (.tmp k)))
  simp only [lay, List.foldl] at h ⊢
  rw [h.1, h.2, Lt.put_size, Lt.put_defs]
  exact ⟨rfl, rfl⟩
theorem lay_eval (a : Act) : ∀ (l : List Nat) (b : Act) (k : Nat), (∀ x, x ∈ l → x < b.tmps.size) → (lay a l b).eval (.tmp k) = if k ∈ l then a.eval (.tmp k) else b.eval (.tmp k)
 | [], b, k, _ => by simp [lay]
 | x :: l, b, k, h => by
  have hx := h x (by simp)
  have ih := lay_eval a l (b.put (some x) (a.eval (.tmp x))) k (fun y hy => by rw [Lt.put_size]; exact h y (by simp [hy]))
  simp only [lay, List.foldl] at ih ⊢
  rw [ih]
  by_cases hl : k ∈ l
  ·simp [hl]
  ·simp only [hl, if_false]
   by_cases e : k = x
   ·subst e; rw [Lt.put_eval hx]; simp
   ·rw [Lt.put_other e]; simp [e, hl]
theorem act_ext {a b : Act} (hs : a.tmps.size = b.tmps.size) (hd : a.defers = b.defers) (h : ∀ k, a.eval (.tmp k) = b.eval (.tmp k)) : a = b := by
 obtain ⟨ta, da⟩ := a
 obtain ⟨tb, db⟩ := b
 simp only at hs hd
 subst hd
 congr 1
 apply Array.ext hs
 intro i h1 h2
 have := h i
 simpa [Act.eval, h1, h2] using this
theorem frame {ks : List (Nat × Nat)} {vals : Nat → Value} {xs : List Nat} {WI : (Nat → Bool) → (Nat → Value) → World → Prop} {a0 a : Act} {L : Nat → Bool} {w : World} (h : In ks vals xs WI a0 L a w) (l : List Nat) (hl : (ks.all fun p => l.contains p.2) = true) (hx : (xs.all fun k => l.contains k) = true) (hs : ∀ x, x ∈ l → x < a0.tmps.size) : a = lay a l a0 := by
 refine act_ext ?_ ?_ ?_
 ·rw [(lay_size a l a0).1]; exact h.sz
 ·rw [(lay_size a l a0).2]; exact h.df
 ·intro k
  rw [lay_eval a l a0 k hs]
  by_cases hk : k ∈ l
  ·simp [hk]
  ·simp only [hk, if_false]
   refine h.fix k (fun hD => ?_) ?_
   ·simp only [D, List.any_eq_true, beq_iff_eq] at hD
    obtain ⟨p, hp, e⟩ := hD
    simp only [List.all_eq_true] at hl
    have := hl p hp
    rw [e] at this
    simp [hk] at this
   ·cases hc : xs.contains k with
    | false => rfl
    | true =>
     simp only [List.all_eq_true] at hx
     have := hx k (by simpa using hc)
     simp [hk] at this
end LtH
end
section
namespace LtE
open Lt (up up_same up_other)
def WI (cs : List Nat) (es : List (Nat × Nat)) (S : Nat → (Nat → Value) → World → Prop) (L : Nat → Bool) (s : Nat → Value) (w : World) : Prop :=
 (∃ n, n ≤ cs.length ∧ (∀ m i, cs[m]? = some i → (L i = true ↔ m < n)) ∧ S n s w) ∧ (∀ p, p ∈ es → L p.1 = true → L p.2 = true)
variable {cs : List Nat} {es : List (Nat × Nat)} {S : Nat → (Nat → Value) → World → Prop} {L : Nat → Bool} {s : Nat → Value} {w : World}
theorem WI.start (h : S 0 s w) : WI cs es S (fun _ => false) s w := ⟨⟨0, Nat.zero_le _, fun m i _ => by simp, h⟩, fun p _ e => by cases e⟩
theorem up_keep {b : Bool} {rb : Nat} (h : L rb = true) (i : Nat) : up L i rb = true := by
 by_cases e : rb = i
 ·subst e; exact up_same _ _
 ·rw [up_other _ e]; exact h
theorem WI.pass {i : Nat} (hi : cs.contains i = false) (hra : es.all (fun p => cs.contains p.1) = true) (h : WI cs es S L s w) : WI cs es S (up L i) s w := by
 obtain ⟨⟨n, hn, hL, hS⟩, hr⟩ := h
 refine ⟨⟨n, hn, fun m j hj => ?_, hS⟩, fun p hp e => ?_⟩
 ·rw [up_other _ (fun e => ?_)]
  ·exact hL m j hj
  ·subst e
   have := List.mem_of_getElem? hj
   simp [this] at hi
 ·have hpc : cs.contains p.1 = true := (List.all_eq_true.1 hra) p hp
  rw [up_other _ (fun e => by subst e; rw [hi] at hpc; cases hpc)] at e
  exact up_keep (b := true) (hr p hp e) i
theorem WI.early (h : WI cs es S L s w) {m ra rb : Nat} (hp : (ra, rb) ∈ es) (hm : cs[m]? = some ra) (hL : L rb = false) : ∃ n, n ≤ m ∧ S n s w := by
 obtain ⟨⟨n, hn, hLn, hS⟩, hr⟩ := h
 refine ⟨n, ?_, hS⟩
 rcases Nat.lt_or_ge m n with hlt | hge
 ·have := hr _ hp ((hLn m ra hm).2 hlt)
  rw [hL] at this
  cases this
 ·exact hge
theorem WI.any (h : WI cs es S L s w) : ∃ n, S n s w := by
 obtain ⟨⟨n, hn, hLn, hS⟩, hr⟩ := h
 exact ⟨n, hS⟩
theorem WI.at {m i : Nat} (hnd : cs.Nodup) (hm : cs[m]? = some i) (h : WI cs es S L s w) (hL : L i = false) (hr' : ∀ p, p ∈ es → i = p.1 → L p.2 = true) (hp : ∀ m' j, m = m' + 1 → cs[m']? = some j → L j = true) : S m s w ∧ ∀ s' w', S (m + 1) s' w' → WI cs es S (up L i) s' w' := by
 obtain ⟨⟨n, hn, hLn, hS⟩, hr⟩ := h
 have h1 : ¬ m < n := fun hlt => by have := (hLn m i hm).2 hlt; rw [hL] at this; cases this
 have hlen := (List.getElem?_eq_some_iff.1 hm).1
 have h2 : m ≤ n := by
  cases m with
  | zero => omega
  | succ m' =>
   obtain ⟨j, hj⟩ : ∃ j, cs[m']? = some j := ⟨cs[m']'(by omega), List.getElem?_eq_getElem _⟩
   have := (hLn m' j hj).1 (hp m' j rfl hj)
   omega
 have h3 : m = n := by omega
 subst h3
 refine ⟨hS, fun s' w' hS' => ⟨⟨m + 1, by omega, fun m2 j hj => ?_, hS'⟩, fun p hp' e => ?_⟩⟩
 rotate_left
 ·refine up_keep (b := true) ?_ i
  by_cases he : i = p.1
  ·exact hr' p hp' he
  ·rw [up_other _ (Ne.symm he)] at e
   exact hr p hp' e
 by_cases he : j = i
 ·subst he
  have e : m2 = m := by
   have h5 := (List.getElem?_eq_some_iff.1 hj).1
   have h6 := List.pairwise_iff_getElem.1 hnd
   have e1 := (List.getElem?_eq_some_iff.1 hj).2
   have e2 := (List.getElem?_eq_some_iff.1 hm).2
   rcases Nat.lt_trichotomy m2 m with h7 | h7 | h7
   ·exact absurd (e1.trans e2.symm) (h6 m2 m h5 hlen h7)
   ·exact h7
   ·exact absurd (e2.trans e1.symm) (h6 m m2 hlen h5 h7)
  subst e
  simp [up_same]
 ·rw [up_other _ he, hLn m2 j hj]
  constructor
  ·omega
  ·intro h4
   have : ¬ m2 = m := fun e => by subst e; rw [hm] at hj; cases hj; exact he rfl
   omega
theorem WI.done (h : WI cs es S L s w) (hall : ∀ i, i ∈ cs → L i = true) : S cs.length s w := by
 obtain ⟨⟨n, hn, hL, hS⟩, _⟩ := h
 have : n = cs.length := by
  rcases Nat.lt_or_ge n cs.length with hlt | hge
  ·obtain ⟨j, hj⟩ : ∃ j, cs[n]? = some j := ⟨cs[n]'hlt, List.getElem?_eq_getElem _⟩
   have := (hL n j hj).1 (hall j (List.mem_of_getElem? hj))
   omega
  ·omega
 subst this
 exact hS
variable {P : Program} {Q : Exit → Act → World → Prop} {ks : List (Nat × Nat)} {vals : Nat → Value} {xs : List Nat} {a0 : Act} {i m : Nat} {o : Oper}
theorem read (hd : o.dst = Lt.look ks i) (hi : cs.contains i = false) (hra : es.all (fun p => cs.contains p.1) = true) (h : ∀ L a w, LtH.In ks vals xs (WI cs es S) a0 L a w → L i = false → (∀ e ∈ o.after, Region.binds .any e = true → L e.on = true) → (execOp a.eval o).run P w = .ok (.value (vals i)) w) : LtH.Does P Q ks vals xs (WI cs es S) a0 i o :=
 .mk hd fun L a w K hI hL hdep hk => Lt.wp_value (h L a w hI hL hdep) (hk w _ (fun _ _ => rfl) (hI.world.pass hi hra))
theorem call {x : Nat} {f : FuncId} {args : (Nat → Value) → Array Value} (hnd : cs.Nodup) (hm : cs[m]? = some i) (hd : o.dst = some x) (hx : xs.contains x = true) (hn : Lt.look ks i = none) (hr : ∀ (L : Nat → Bool), (∀ e ∈ o.after, Region.binds .any e = true → L e.on = true) → ∀ p, p ∈ es → i = p.1 → L p.2 = true) (hp : ∀ (L : Nat → Bool), (∀ e ∈ o.after, Region.binds .any e = true → L e.on = true) → ∀ m' j, m = m' + 1 → cs[m']? = some j → L j = true)
  (h : ∀ L a w, LtH.In ks vals xs (WI cs es S) a0 L a w → (∀ e ∈ o.after, Region.binds .any e = true → L e.on = true) → S m (fun k => a.eval (.tmp k)) w → (execOp a.eval o).run P w = .ok (.enter f (args (fun k => a.eval (.tmp k)))) w)
  (hc : ∀ s w, S m s w → Calls P f (args s) w fun e w' => ∃ v, e = .returned v ∧ S (m + 1) (fun k => if k = x then v else s k) w') : LtH.Does P Q ks vals xs (WI cs es S) a0 i o :=
 .own x hd hx hn fun L a w K hI hL hdep hk => by
  obtain ⟨h1, h2⟩ := hI.world.at hnd hm hL (hr L hdep) (hp L hdep)
  refine Lt.wp_call (h L a w hI hdep h1) ((hc _ w h1).mono ?_)
  rintro e w' ⟨v, rfl, hw⟩
  exact ⟨v, rfl, by rw [hd]; exact hk _ _ (h2 _ _ hw)⟩
theorem link {x : Nat} (hnd : cs.Nodup) (hm : cs[m]? = some i) (hd : o.dst = some x) (hx : xs.contains x = true) (hn : Lt.look ks i = none) (hr : ∀ (L : Nat → Bool), (∀ e ∈ o.after, Region.binds .any e = true → L e.on = true) → ∀ p, p ∈ es → i = p.1 → L p.2 = true) (hp : ∀ (L : Nat → Bool), (∀ e ∈ o.after, Region.binds .any e = true → L e.on = true) → ∀ m' j, m = m' + 1 → cs[m']? = some j → L j = true)
  (h : ∀ L a w (K : Act → World → Prop), LtH.In ks vals xs (WI cs es S) a0 L a w → (∀ e ∈ o.after, Region.binds .any e = true → L e.on = true) → S m (fun k => a.eval (.tmp k)) w → (∀ v w', S (m + 1) (fun k => if k = x then v else a.eval (.tmp k)) w' → K (a.put o.dst v) w') → o.wp P a w K Q) : LtH.Does P Q ks vals xs (WI cs es S) a0 i o :=
 .own x hd hx hn fun L a w K hI hL hdep hk => by
  obtain ⟨h1, h2⟩ := hI.world.at hnd hm hL (hr L hdep) (hp L hdep)
  exact h L a w K hI hdep h1 (fun v w' hS => by rw [hd]; exact hk w' v (h2 _ _ hS))
theorem store (hnd : cs.Nodup) (hm : cs[m]? = some i) (hd : o.dst = none) (hn : Lt.look ks i = none) (hr : ∀ (L : Nat → Bool), (∀ e ∈ o.after, Region.binds .any e = true → L e.on = true) → ∀ p, p ∈ es → i = p.1 → L p.2 = true) (hp : ∀ (L : Nat → Bool), (∀ e ∈ o.after, Region.binds .any e = true → L e.on = true) → ∀ m' j, m = m' + 1 → cs[m']? = some j → L j = true)
  (h : ∀ L a w (K : Act → World → Prop), LtH.In ks vals xs (WI cs es S) a0 L a w → (∀ e ∈ o.after, Region.binds .any e = true → L e.on = true) → S m (fun k => a.eval (.tmp k)) w → (∀ v w', S (m + 1) (fun k => a.eval (.tmp k)) w' → K (a.put o.dst v) w') → o.wp P a w K Q) : LtH.Does P Q ks vals xs (WI cs es S) a0 i o :=
 .mk (by rw [hd, hn]) fun L a w K hI hL hdep hk => by
  obtain ⟨h1, h2⟩ := hI.world.at hnd hm hL (hr L hdep) (hp L hdep)
  exact h L a w K hI hdep h1 (fun v w' hS => hk w' v (fun d e => by rw [hd] at e; cases e) (h2 _ _ hS))
end LtE
end
end Go.Proofs.YtppgbndoijppnaaGreat
