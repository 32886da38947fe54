/-
  A region that draws its order, guards and calls in it, by a table of what each operation tells: whatever the order; the worlds are said by one invariant.
-/
import Derived.Test.YtbffhfmhjnflbaaLb0
import Derived.Orders
namespace Go.Proofs.Ytbffhfmhjnflbaa
open Go.RowKit
set_option linter.unusedVariables false
set_option linter.unusedSimpArgs false
set_option linter.unnecessarySimpa false
namespace Lt

def cnt (g : Nat → Bool) : Nat → Nat
  | 0 => 0
  | i + 1 => cnt g i + (if g i then 1 else 0)
theorem cnt_le (g : Nat → Bool) : ∀ i, cnt g i ≤ i
  | 0 => Nat.le_refl _
  | i + 1 => by have := cnt_le g i; simp only [cnt]; split <;> omega
theorem cnt_zero {g : Nat → Bool} : ∀ {n : Nat}, cnt g n = 0 → ∀ i, i < n → g i = false
  | 0, _, i, hi => absurd hi (by omega)
  | n + 1, h, i, hi => by
    simp only [cnt] at h
    cases hn : g n with
    | true => rw [hn] at h; simp at h
    | false =>
      by_cases e : i = n
      · subst e; exact hn
      · exact cnt_zero (n := n) (by rw [hn] at h; simpa using h) i (by omega)
def up (L : Nat → Bool) (i : Nat) : Nat → Bool := fun j => if j = i then true else L j
theorem up_same (L : Nat → Bool) (i : Nat) : up L i i = true := by simp [up]
theorem up_other (L : Nat → Bool) {i j : Nat} (h : j ≠ i) : up L i j = L j := by simp [up, h]
theorem cnt_up {L : Nat → Bool} {i : Nat} (hi : L i = false) : ∀ n, cnt (fun j => !(up L i) j) n + (if i < n then 1 else 0) = cnt (fun j => !L j) n
  | 0 => by simp [cnt]
  | n + 1 => by
    have ih := cnt_up hi n
    simp only [cnt]
    by_cases h : n = i
    · subst h
      simp only [up_same, Nat.lt_irrefl, if_false, Nat.add_zero] at ih ⊢
      simp [hi, ih]
    · have hu : up L i n = L n := up_other _ h
      have : (i < n + 1) = (i < n) := by apply propext; omega
      simp only [this, hu]
      omega
def lis (listed : Array Bool) : Nat → Bool := fun i => listed.getD i false
theorem lis_set {listed : Array Bool} {i : Nat} (hi : i < listed.size) : lis (listed.setIfInBounds i true) = up (lis listed) i := by
  funext j
  by_cases h : j = i
  · subst h; simp [lis, hi, up]
  · rw [up_other _ h]
    simp [lis, Array.getElem?_setIfInBounds_ne (Ne.symm h)]

section
variable {P : Program} {ops : Array Oper} {Q : Exit → Act → World → Prop} {md : Region.Mode}

theorem wpAny_inv (hback : ∀ (i : Nat) (o : Oper), ops[i]? = some o → ∀ e ∈ o.after, Region.binds md e = true → e.on < i) (I : (Nat → Bool) → Act → World → Prop)
    (hstep : ∀ (L : Nat → Bool) (a : Act) (w : World) (i : Nat) (o : Oper), I L a w → ops[i]? = some o → L i = false → (∀ e ∈ o.after, Region.binds md e = true → L e.on = true) → (Region.wanted o (yielded ops a.tmps) = true ∧ o.wp P a w (fun a' w' => I (up L i) a' w') Q) ∨ (Region.wanted o (yielded ops a.tmps) = false ∧ I (up L i) (a.put o.dst undef) w))
    (hend : ∀ (L : Nat → Bool) (a : Act) (w : World), I L a w → (∀ i, i < ops.size → L i = true) → Q .normal a w) :
    ∀ fuel listed a w, listed.size = ops.size → cnt (fun i => !(lis listed) i) ops.size ≤ fuel → I (lis listed) a w → wpAny P md ops Q fuel listed a w := by
  have none_ready : ∀ listed : Array Bool, listed.size = ops.size → Region.ready md ops listed = [] → ∀ i, i < ops.size → lis listed i = true := by
    intro listed hsz hr i
    induction i using Nat.strongRecOn with
    | ind i ih =>
      intro hi
      cases hl : lis listed i with
      | true => rfl
      | false =>
        exfalso
        have hm : i ∈ Region.ready md ops listed := by
          rw [mem_ready]
          refine ⟨?_, ops[i], by simp [hi], fun e he hb => ?_⟩
          · have hlt : i < listed.size := by omega
            simp only [lis] at hl
            simpa [hlt] using hl
          · have hlt := hback i ops[i] (by simp [hi]) e he hb
            exact ih e.on hlt (by omega)
        rw [hr] at hm
        cases hm
  intro fuel
  induction fuel with
  | zero =>
    intro listed a w hsz hc hI
    have hall : ∀ i, i < ops.size → lis listed i = true := fun i hi => by
      have := cnt_zero (g := fun i => !(lis listed) i) (n := ops.size) (by omega) i hi
      simpa using this
    refine ⟨?_, hend _ a w hI hall⟩
    cases hr : Region.ready md ops listed with
    | nil => rfl
    | cons x xs =>
      exfalso
      have hx : x ∈ Region.ready md ops listed := by rw [hr]; simp
      rw [mem_ready] at hx
      obtain ⟨h0, o, ho, _⟩ := hx
      have hlt : x < ops.size := (Array.getElem?_eq_some_iff.1 ho).1
      have := hall x hlt
      have hlt' : x < listed.size := by omega
      simp [lis, hlt'] at this
      simp [hlt'] at h0
      rw [h0] at this
      cases this
  | succ fuel ih =>
    intro listed a w hsz hc hI
    refine ⟨fun hr => hend _ a w hI (none_ready listed hsz hr), fun i hi => ?_⟩
    rw [mem_ready] at hi
    obtain ⟨h0, o, ho, hdep⟩ := hi
    have hlt : i < ops.size := (Array.getElem?_eq_some_iff.1 ho).1
    have hlt' : i < listed.size := by omega
    have hf : lis listed i = false := by simp [hlt'] at h0; simp [lis, hlt', h0]
    have hs := hstep (lis listed) a w i o hI ho hf hdep
    have go : ∀ a' w', I (up (lis listed) i) a' w' → wpAny P md ops Q fuel (listed.setIfInBounds i true) a' w' := fun a' w' h => by
      refine ih _ a' w' (by simpa using hsz) ?_ (by rw [lis_set hlt']; exact h)
      rw [lis_set hlt']
      have := cnt_up hf ops.size
      rw [if_pos hlt] at this
      omega
    unfold wpOp
    simp only [ho]
    rcases hs with ⟨hw, hs⟩ | ⟨hw, hs⟩
    · rw [if_pos hw]
      left
      exact Oper.wp_mono go hs
    · rw [hw]
      simp only [Bool.false_eq_true, if_false]
      exact go _ _ hs

theorem region_inv {id : Nat} {a : Act} {w : World} (hm : P.follows .mixedOrders = true) (hback : ∀ (i : Nat) (o : Oper), ops[i]? = some o → ∀ e ∈ o.after, Region.binds .any e = true → e.on < i) (I : (Nat → Bool) → Act → World → Prop)
    (hstep : ∀ (L : Nat → Bool) (a : Act) (w : World) (i : Nat) (o : Oper), I L a w → ops[i]? = some o → L i = false → (∀ e ∈ o.after, Region.binds .any e = true → L e.on = true) → (Region.wanted o (yielded ops a.tmps) = true ∧ o.wp P a w (fun a' w' => I (up L i) a' w') Q) ∨ (Region.wanted o (yielded ops a.tmps) = false ∧ I (up L i) (a.put o.dst undef) w))
    (hend : ∀ (L : Nat → Bool) (a : Act) (w : World), I L a w → (∀ i, i < ops.size → L i = true) → Q .normal a w)
    (h0 : I (fun _ => false) a { w with drawn := w.drawn + 1 }) : (Code.region id ops true).wp P Q a w := by
  refine wp_region_any hm (wpAny_inv hback I hstep hend _ _ a _ (by simp) ?_ ?_)
  · exact cnt_le _ _
  · have : lis (Array.replicate ops.size false) = fun _ => false := by
      funext i
      simp [lis, Array.getElem?_replicate]
      split <;> rfl
    rw [this]
    exact h0
end

theorem put_eval {a : Act} {d : Nat} {v : Value} (h : d < a.tmps.size) : (a.put (some d) v).eval (.tmp d) = v := by
  simp [Act.put, Act.eval, h]
theorem put_other {a : Act} {d k : Nat} {v : Value} (h : k ≠ d) : (a.put (some d) v).eval (.tmp k) = a.eval (.tmp k) :=
  Act.eval_put (fun d' hd he => by cases hd; cases he; exact h rfl)
theorem put_size {a : Act} {d : Option Nat} {v : Value} : (a.put d v).tmps.size = a.tmps.size := by
  cases d <;> simp [Act.put]
theorem put_defs {a : Act} {d : Option Nat} {v : Value} : (a.put d v).defers = a.defers := by
  cases d <;> rfl

def look (l : List (Nat × Nat)) (i : Nat) : Option Nat := (l.find? (fun p => p.1 == i)).map (·.2)
theorem look_mem {l : List (Nat × Nat)} {i d : Nat} (h : look l i = some d) : (i, d) ∈ l := by
  unfold look at h
  obtain ⟨p, hp, hd⟩ := Option.map_eq_some_iff.1 h
  have h1 := List.find?_some hp
  have h2 := List.mem_of_find?_eq_some hp
  simp at h1
  subst h1; subst hd
  exact h2
theorem notD {b : Bool} (h : b = false) : ¬ b = true := by simp [h]
def pv (ks : List (Nat × Nat)) (vals : Nat → Value) (i : Nat) : Option (Nat × Value) := (look ks i).map (fun d => (d, vals i))
def D (ks : List (Nat × Nat)) (k : Nat) : Prop := (ks.any (fun p => p.2 == k)) = true

structure In (ks : List (Nat × Nat)) (vals : Nat → Value) (WI : World → Prop) (a0 : Act) (L : Nat → Bool) (a : Act) (w : World) : Prop where
  sz : a.tmps.size = a0.tmps.size
  df : a.defers = a0.defers
  fix : ∀ k, ¬ D ks k → a.eval (.tmp k) = a0.eval (.tmp k)
  pure : ∀ i d v, pv ks vals i = some (d, v) → L i = true → a.eval (.tmp d) = v
  world : WI w

abbrev Deps (o : Oper) (L : Nat → Bool) : Prop := ∀ e ∈ o.after, Region.binds .any e = true → L e.on = true

/-- What operation i does. -/
inductive Does (P : Program) (Q : Exit → Act → World → Prop) (ops : Array Oper) (ks : List (Nat × Nat)) (vals : Nat → Value) (WI : World → Prop) (a0 : Act) (i : Nat) (o : Oper) : Prop where
  | run (dst : o.dst = look ks i) (wn : ∀ L a w, In ks vals WI a0 L a w → Deps o L → Region.wanted o (yielded ops a.tmps) = true) (wp : ∀ L a w (K : Act → World → Prop), In ks vals WI a0 L a w → Deps o L → (∀ w' v, (∀ d, o.dst = some d → v = vals i) → WI w' → K (a.put o.dst v) w') → o.wp P a w K Q)
  | skip (dst : o.dst = look ks i) (wn : ∀ L a w, In ks vals WI a0 L a w → Deps o L → Region.wanted o (yielded ops a.tmps) = false) (hv : vals i = undef)

theorem region {P : Program} {id : Nat} {ops : Array Oper} {Q : Exit → Act → World → Prop} {ks : List (Nat × Nat)} {vals : Nat → Value} {WI : World → Prop} {w0 : World} {a0 : Act}
    (hm : P.follows .mixedOrders = true) (hback : ∀ (i : Nat) (o : Oper), ops[i]? = some o → ∀ e ∈ o.after, Region.binds .any e = true → e.on < i)
    (hgood : (ks.all fun p => ks.all fun q => p.1 == q.1 || p.2 != q.2) = true) (hD : ∀ k, D ks k → k < a0.tmps.size) (hW0 : WI { w0 with drawn := w0.drawn + 1 })
    (does : ∀ (i : Nat) (o : Oper), ops[i]? = some o → Does P Q ops ks vals WI a0 i o)
    (fin : ∀ L a w, In ks vals WI a0 L a w → (∀ i, i < ops.size → L i = true) → Q .normal a w) :
    (Code.region id ops true).wp P Q a0 w0 := by
  simp only [List.all_eq_true, bne_iff_ne, Bool.or_eq_true, beq_iff_eq] at hgood
  have pvm : ∀ {i d v}, pv ks vals i = some (d, v) → (i, d) ∈ ks := fun {i d v} h => by
    obtain ⟨d', h1, h2⟩ := Option.map_eq_some_iff.1 h
    cases h2; exact look_mem h1
  refine region_inv hm hback (fun L a w => In ks vals WI a0 L a w) ?step (fun L a w h hall => fin L a w h hall) ?start
  case start => exact ⟨rfl, rfl, fun _ _ => rfl, fun _ _ _ _ h => (by cases h), hW0⟩
  case step =>
    rintro L a w i o h ho hL hd
    have on : ∀ w' v, o.dst = look ks i → (∀ d, o.dst = some d → v = vals i) → WI w' → In ks vals WI a0 (up L i) (a.put o.dst v) w' := fun w' v hdst hv hW => by
      cases hlk : look ks i with
      | none =>
        rw [hdst, hlk]
        refine ⟨h.sz, h.df, h.fix, fun j d' v' hj hLj => h.pure j d' v' hj ?_, hW⟩
        have hji : j ≠ i := fun e => by
          subst e
          obtain ⟨d'', h1, _⟩ := Option.map_eq_some_iff.1 hj
          rw [hlk] at h1; cases h1
        rwa [up_other _ hji] at hLj
      | some d =>
        have hv' := hv d (hdst.trans hlk)
        subst hv'
        rw [hdst, hlk]
        have hm' : (i, d) ∈ ks := look_mem hlk
        have hDd : D ks d := by simp only [D, List.any_eq_true, beq_iff_eq]; exact ⟨_, hm', rfl⟩
        have e : ∀ k : Nat, k ≠ d → (a.put (some d) (vals i)).eval (.tmp k) = a.eval (.tmp k) := fun k hk => put_other hk
        refine ⟨by rw [put_size]; exact h.sz, by rw [put_defs]; exact h.df, fun k hk => ?_, fun j d' v' hj hLj => ?_, hW⟩
        · rw [e k (fun he => hk (he ▸ hDd))]; exact h.fix k hk
        · by_cases hij : j = i
          · subst hij
            rw [pv, hlk] at hj
            cases hj
            exact put_eval (by rw [h.sz]; exact hD _ hDd)
          · rw [up_other _ hij] at hLj
            have : d' ≠ d := by
              rcases hgood _ hm' _ (pvm hj) with e1 | e1
              · exact absurd e1.symm hij
              · exact Ne.symm e1
            rw [e d' this]
            exact h.pure j d' v' hj hLj
    rcases does i o ho with ⟨hdst, hwn, hwp⟩ | ⟨hdst, hwn, hv⟩
    · exact .inl ⟨hwn L a w h hd, hwp L a w _ h hd (fun w' v hv hW => on w' v hdst hv hW)⟩
    · exact .inr ⟨hwn L a w h hd, on w undef hdst (fun _ _ => hv.symm) h.world⟩

section
variable {P : Program} {Q : Exit → Act → World → Prop} {ops : Array Oper} {ks : List (Nat × Nat)} {vals : Nat → Value} {WI : World → Prop} {a0 : Act} {i : Nat} {o : Oper}
theorem wn0 (hg : o.guard = none) {y : Nat → Option Bool} : Region.wanted o y = true := by simp [Region.wanted, hg]
theorem wnG {a : Act} {j d : Nat} {b c q : Bool} (hg : o.guard = some (j, b)) (hd : (ops[j]?).bind (·.dst) = some d) (hv : a.eval (.tmp d) = .bool c) (hq : (c == b) = q) : Region.wanted o (yielded ops a.tmps) = q := by
  have e : a.tmps[d]? = some (.bool c) := by
    cases h : a.tmps[d]? with
    | none => simp [Act.eval, h, undef] at hv
    | some v => simp [Act.eval, h] at hv; rw [hv]
  unfold Region.wanted yielded
  rw [hg]
  simp only [hd, Option.bind_some, e]
  rw [← hq]
  cases b <;> cases c <;> rfl

theorem wp_value {a : Act} {w : World} {K : Act → World → Prop} {v : Value} {w' : World} (h : (execOp a.eval o).run P w = .ok (.value v) w') (hk : K (a.put o.dst v) w') : o.wp P a w K Q := by
  unfold Oper.wp; rw [h]; exact hk
theorem wp_call {a : Act} {w : World} {K : Act → World → Prop} {f : FuncId} {args : Array Value} (hrun : (execOp a.eval o).run P w = .ok (.enter f args) w) (hc : Calls P f args w fun e w' => ∃ v, e = .returned v ∧ K (a.put o.dst v) w') : o.wp P a w K Q := by
  unfold Oper.wp
  rw [hrun, Oper.upon_enter]
  exact hc.mono (fun e w' ⟨v, he, hk⟩ => by subst he; exact hk)

/-- It only reads. -/
theorem Does.read (hd : o.dst = look ks i) (wn : ∀ L a w, In ks vals WI a0 L a w → Deps o L → Region.wanted o (yielded ops a.tmps) = true) (h : ∀ L a w, In ks vals WI a0 L a w → Deps o L → (execOp a.eval o).run P w = .ok (.value (vals i)) w) : Does P Q ops ks vals WI a0 i o :=
  .run hd wn fun L a w K hI hdep hk => wp_value (h L a w hI hdep) (hk w _ (fun _ _ => rfl) hI.world)
/-- It makes memory, or writes its own. -/
theorem Does.make (hd : o.dst = look ks i) (wn : ∀ L a w, In ks vals WI a0 L a w → Deps o L → Region.wanted o (yielded ops a.tmps) = true) (h : ∀ L a w, In ks vals WI a0 L a w → Deps o L → ∃ w', (execOp a.eval o).run P w = .ok (.value (vals i)) w' ∧ WI w') : Does P Q ops ks vals WI a0 i o :=
  .run hd wn fun L a w K hI hdep hk => by
    obtain ⟨w', h1, h2⟩ := h L a w hI hdep
    exact wp_value h1 (hk w' _ (fun _ _ => rfl) h2)
/-- A call. -/
theorem Does.call {f : FuncId} {args : Array Value} (hd : o.dst = look ks i) (wn : ∀ L a w, In ks vals WI a0 L a w → Deps o L → Region.wanted o (yielded ops a.tmps) = true) (h : ∀ L a w, In ks vals WI a0 L a w → Deps o L → (execOp a.eval o).run P w = .ok (.enter f args) w)
    (hc : ∀ w, WI w → Calls P f args w fun e w' => e = .returned (vals i) ∧ WI w') : Does P Q ops ks vals WI a0 i o :=
  .run hd wn fun L a w K hI hdep hk => wp_call (h L a w hI hdep) ((hc w hI.world).mono (by rintro e w' ⟨rfl, hw⟩; exact ⟨_, rfl, hk _ _ (fun _ _ => rfl) hw⟩))
end

/-- A frame, slot by slot. -/
theorem act_eq (a : Act) (l : List Value) (hd : a.defers = []) (hn : a.tmps.size = l.length) (h : ∀ k, k < l.length → a.eval (.tmp k) = l.getD k undef) : a = ⟨l.toArray, []⟩ := by
  obtain ⟨tmps, defers⟩ := a
  simp only at hn hd
  subst hd
  congr 1
  apply Array.ext
  · simp [hn]
  · intro i h1 h2
    have := h i (by omega)
    have h3 : i < l.length := by omega
    simpa [Act.eval, h1, h3] using this

/-! ### Single operations -/
section
variable {ev : Operand → Value} {o : Oper} {w : World}
theorem ex_move {x : Operand} {v : Value} (ho : o.op = .move x) (hx : ev x = v) : (execOp ev o).run Try.prog w = .ok (.value v) w := by simp [execOp, ho, hx]
theorem ex_assign {x : Operand} {v : Value} (ho : o.op = .assign x) (hx : ev x = v) : (execOp ev o).run Try.prog w = .ok (.value v) w := by simp [execOp, ho, hx]
theorem ex_extract {x : Operand} {vs : Array Value} {i : Nat} {v : Value} (ho : o.op = .extract x i) (hx : ev x = .tuple vs) (hv : vs[i]? = some v) : (execOp ev o).run Try.prog w = .ok (.value v) w := by
  simp [execOp, ho, hx, go_sem, hv]
theorem ex_pick {x y z : Operand} {b : Bool} {v : Value} (ho : o.op = .pick x y z) (hx : ev x = .bool b) (hv : (if b = true then ev y else ev z) = v) : (execOp ev o).run Try.prog w = .ok (.value v) w := by
  cases b <;> simp at hv <;> simp [execOp, ho, hx, hv, go_sem]
theorem ex_load {x : Operand} {ty : TypeId} {a : Addr} {v : Value} (ho : o.op = .load ty x) (hx : ev x = .pointer (some a)) (hagg : (isAgg ty).run Try.prog w = .ok false w) (hc : w.cell? a = some v) : (execOp ev o).run Try.prog w = .ok (.value v) w := by
  simp [execOp, ho, hx, Instr.loadAt, Instr.sureAddr, loadVar, Sem.run_bind, hagg, go_sem, hc]
theorem ex_field {x : Operand} {b k q : Nat} {ty : TypeId} (ho : o.op = .fieldAddr ty x k) (hx : ev x = .pointer (some ⟨b, 0, none⟩)) (hf : (Instr.fieldAt ty (.pointer (some ⟨b, 0, none⟩)) k).run Try.prog w = .ok (.pointer (some ⟨b, q, none⟩)) w) : (execOp ev o).run Try.prog w = .ok (.value (.pointer (some ⟨b, q, none⟩))) w := by
  simp [execOp, ho, hx, hf]
theorem call1 {f : FuncId} {x0 : Operand} {ts : Array TypeId} {v0 : Value} (ho : o.op = Op.call { callee := Callee.value (Operand.func f), args := #[x0], argTypes := ts }) (h0 : ev x0 = v0) (hf : ev (Operand.func f) = .func (.func f) #[] #[]) (hcf : (callFunc f #[v0]).run Try.prog w = .ok (.enter f #[v0]) w) :
    (execOp ev o).run Try.prog w = .ok (.enter f #[v0]) w := by
  simp [execOp, ho, h0, hf, resolve, invoke, go_sem, hcf]
theorem call2 {f : FuncId} {x0 x1 : Operand} {ts : Array TypeId} {v0 v1 : Value} (ho : o.op = Op.call { callee := Callee.value (Operand.func f), args := #[x0, x1], argTypes := ts }) (h0 : ev x0 = v0) (h1 : ev x1 = v1) (hf : ev (Operand.func f) = .func (.func f) #[] #[]) (hcf : (callFunc f #[v0, v1]).run Try.prog w = .ok (.enter f #[v0, v1]) w) :
    (execOp ev o).run Try.prog w = .ok (.enter f #[v0, v1]) w := by
  simp [execOp, ho, h0, h1, hf, resolve, invoke, go_sem, hcf]
theorem call3 {f : FuncId} {x0 x1 x2 : Operand} {ts : Array TypeId} {v0 v1 v2 : Value} (ho : o.op = Op.call { callee := Callee.value (Operand.func f), args := #[x0, x1, x2], argTypes := ts }) (h0 : ev x0 = v0) (h1 : ev x1 = v1) (h2 : ev x2 = v2) (hf : ev (Operand.func f) = .func (.func f) #[] #[]) (hcf : (callFunc f #[v0, v1, v2]).run Try.prog w = .ok (.enter f #[v0, v1, v2]) w) :
    (execOp ev o).run Try.prog w = .ok (.enter f #[v0, v1, v2]) w := by
  simp [execOp, ho, h0, h1, h2, hf, resolve, invoke, go_sem, hcf]
theorem call4 {f : FuncId} {x0 x1 x2 x3 : Operand} {ts : Array TypeId} {v0 v1 v2 v3 : Value} (ho : o.op = Op.call { callee := Callee.value (Operand.func f), args := #[x0, x1, x2, x3], argTypes := ts }) (h0 : ev x0 = v0) (h1 : ev x1 = v1) (h2 : ev x2 = v2) (h3 : ev x3 = v3) (hf : ev (Operand.func f) = .func (.func f) #[] #[]) (hcf : (callFunc f #[v0, v1, v2, v3]).run Try.prog w = .ok (.enter f #[v0, v1, v2, v3]) w) :
    (execOp ev o).run Try.prog w = .ok (.enter f #[v0, v1, v2, v3]) w := by
  simp [execOp, ho, h0, h1, h2, h3, hf, resolve, invoke, go_sem, hcf]
theorem ex_addI {x y : Operand} {m n z : Int} (ho : o.op = .binOp .add 3 x y 3) (hx : ev x = .int .i64 m) (hy : ev y = .int .i64 n) (hz : IntKind.i64.wrap (m + n) = z) : (execOp ev o).run Try.prog w = .ok (.value (.int .i64 z)) w := by
  subst hz; simp [execOp, ho, hx, hy, go_sem]
theorem ex_subI {x y : Operand} {m n z : Int} (ho : o.op = .binOp .sub 3 x y 3) (hx : ev x = .int .i64 m) (hy : ev y = .int .i64 n) (hz : IntKind.i64.wrap (m - n) = z) : (execOp ev o).run Try.prog w = .ok (.value (.int .i64 z)) w := by
  subst hz; simp [execOp, ho, hx, hy, go_sem]
theorem ex_mulI {x y : Operand} {m n z : Int} (ho : o.op = .binOp .mul 3 x y 3) (hx : ev x = .int .i64 m) (hy : ev y = .int .i64 n) (hz : IntKind.i64.wrap (m * n) = z) : (execOp ev o).run Try.prog w = .ok (.value (.int .i64 z)) w := by
  subst hz; simp [execOp, ho, hx, hy, go_sem]
theorem ex_quoI {x y : Operand} {m n z : Int} (ho : o.op = .binOp .quo 3 x y 3) (hx : ev x = .int .i64 m) (hy : ev y = .int .i64 n) (hn : ¬ n = 0) (hz : IntKind.i64.wrap (m.tdiv n) = z) : (execOp ev o).run Try.prog w = .ok (.value (.int .i64 z)) w := by
  subst hz; simp [execOp, ho, hx, hy, go_sem, hn]
theorem ex_remI {x y : Operand} {m n z : Int} (ho : o.op = .binOp .rem 3 x y 3) (hx : ev x = .int .i64 m) (hy : ev y = .int .i64 n) (hn : ¬ n = 0) (hz : m.tmod n = z) : (execOp ev o).run Try.prog w = .ok (.value (.int .i64 z)) w := by
  subst hz; simp [execOp, ho, hx, hy, go_sem, hn]
theorem isRow_of {ty : TypeId} (h : (Try.prog.underlying ty).map (fun d => d.isRow) = some true) : ∃ d, Try.prog.underlying ty = some d ∧ d.isRow = true := Option.map_eq_some_iff.1 h
theorem ex_load_row {x : Operand} {ty : TypeId} {b off : Nat} {cs : List Value} (ho : o.op = .load ty x) (hx : ev x = .pointer (some ⟨b, off, none⟩)) (hc : w.rangeAt b off cs) (hu : (Try.prog.underlying ty).map (fun d => d.isRow) = some true) (hi : (Try.prog.info? ty).map (·.size) = some cs.length) :
    (execOp ev o).run Try.prog w = .ok (.value (.agg cs.toArray)) w := by
  obtain ⟨d, h1, h2⟩ := isRow_of hu
  simp [execOp, ho, hx, run_loadAt_mid w b off ty cs d hc h1 h2 hi]
end
end Lt
end Go.Proofs.Ytbffhfmhjnflbaa
