/-
  Lemmas: LtR, VsF, VsS, VwA, VwB, VwC.
-/
import Derived.Test.YtecjegjnnahddaaGreatTp03
import Derived.Orders
import Derived.Test.YtecjegjnnahddaaGreatTp06
/-
  A region that draws its order, guards and calls in it, by a table of what each operation tells: whatever the order; the worlds are said by one invariant.
-/
namespace Go.Proofs.YtecjegjnnahddaaGreat
open Go.RowKit
set_option linter.unusedVariables false
set_option linter.unusedSimpArgs false
set_option linter.unnecessarySimpa false
namespace Lt

def cnt (g : Nat → Bool) : Nat → Nat
  | 0 => 0
  | i + 1 => cnt g i + (if g i then 1 else 0)
theorem cnt_le (g : Nat → Bool) : ∀ i, cnt g i ≤ i
  | 0 => Nat.le_refl _
  | i + 1 => by have := cnt_le g i; simp only [cnt]; split <;> omega
theorem cnt_zero {g : Nat → Bool} : ∀ {n : Nat}, cnt g n = 0 → ∀ i, i < n → g i = false
  | 0, _, i, hi => absurd hi (by omega)
  | n + 1, h, i, hi => by
    simp only [cnt] at h
    cases hn : g n with
    | true => rw [hn] at h; simp at h
    | false =>
      by_cases e : i = n
      · subst e; exact hn
      · exact cnt_zero (n := n) (by rw [hn] at h; simpa using h) i (by omega)
def up (L : Nat → Bool) (i : Nat) : Nat → Bool := fun j => if j = i then true else L j
theorem up_same (L : Nat → Bool) (i : Nat) : up L i i = true := by simp [up]
theorem up_other (L : Nat → Bool) {i j : Nat} (h : j ≠ i) : up L i j = L j := by simp [up, h]
theorem cnt_up {L : Nat → Bool} {i : Nat} (hi : L i = false) : ∀ n, cnt (fun j => !(up L i) j) n + (if i < n then 1 else 0) = cnt (fun j => !L j) n
  | 0 => by simp [cnt]
  | n + 1 => by
    have ih := cnt_up hi n
    simp only [cnt]
    by_cases h : n = i
    · subst h
      simp only [up_same, Nat.lt_irrefl, if_false, Nat.add_zero] at ih ⊢
      simp [hi, ih]
    · have hu : up L i n = L n := up_other _ h
      have : (i < n + 1) = (i < n) := by apply propext; omega
      simp only [this, hu]
      omega
def lis (listed : Array Bool) : Nat → Bool := fun i => listed.getD i false
theorem lis_set {listed : Array Bool} {i : Nat} (hi : i < listed.size) : lis (listed.setIfInBounds i true) = up (lis listed) i := by
  funext j
  by_cases h : j = i
  · subst h; simp [lis, hi, up]
  · rw [up_other _ h]
    simp [lis, Array.getElem?_setIfInBounds_ne (Ne.symm h)]

section
variable {P : Program} {ops : Array Oper} {Q : Exit → Act → World → Prop} {md : Region.Mode}

theorem wpAny_inv (hback : ∀ (i : Nat) (o : Oper), ops[i]? = some o → ∀ e ∈ o.after, Region.binds md e = true → e.on < i) (I : (Nat → Bool) → Act → World → Prop)
    (hstep : ∀ (L : Nat → Bool) (a : Act) (w : World) (i : Nat) (o : Oper), I L a w → ops[i]? = some o → L i = false → (∀ e ∈ o.after, Region.binds md e = true → L e.on = true) → (Region.wanted o (yielded ops a.tmps) = true ∧ o.wp P a w (fun a' w' => I (up L i) a' w') Q) ∨ (Region.wanted o (yielded ops a.tmps) = false ∧ I (up L i) (a.put o.dst undef) w))
    (hend : ∀ (L : Nat → Bool) (a : Act) (w : World), I L a w → (∀ i, i < ops.size → L i = true) → Q .normal a w) :
    ∀ fuel listed a w, listed.size = ops.size → cnt (fun i => !(lis listed) i) ops.size ≤ fuel → I (lis listed) a w → wpAny P md ops Q fuel listed a w := by
  have none_ready : ∀ listed : Array Bool, listed.size = ops.size → Region.ready md ops listed = [] → ∀ i, i < ops.size → lis listed i = true := by
    intro listed hsz hr i
    induction i using Nat.strongRecOn with
    | ind i ih =>
      intro hi
      cases hl : lis listed i with
      | true => rfl
      | false =>
        exfalso
        have hm : i ∈ Region.ready md ops listed := by
          rw [mem_ready]
          refine ⟨?_, ops[i], by simp [hi], fun e he hb => ?_⟩
          · have hlt : i < listed.size := by omega
            simp only [lis] at hl
            simpa [hlt] using hl
          · have hlt := hback i ops[i] (by simp [hi]) e he hb
            exact ih e.on hlt (by omega)
        rw [hr] at hm
        cases hm
  intro fuel
  induction fuel with
  | zero =>
    intro listed a w hsz hc hI
    have hall : ∀ i, i < ops.size → lis listed i = true := fun i hi => by
      have := cnt_zero (g := fun i => !(lis listed) i) (n := ops.size) (by omega) i hi
      simpa using this
    refine ⟨?_, hend _ a w hI hall⟩
    cases hr : Region.ready md ops listed with
    | nil => rfl
    | cons x xs =>
      exfalso
      have hx : x ∈ Region.ready md ops listed := by rw [hr]; simp
      rw [mem_ready] at hx
      obtain ⟨h0, o, ho, _⟩ := hx
      have hlt : x < ops.size := (Array.getElem?_eq_some_iff.1 ho).1
      have := hall x hlt
      have hlt' : x < listed.size := by omega
      simp [lis, hlt'] at this
      simp [hlt'] at h0
      rw [h0] at this
      cases this
  | succ fuel ih =>
    intro listed a w hsz hc hI
    refine ⟨fun hr => hend _ a w hI (none_ready listed hsz hr), fun i hi => ?_⟩
    rw [mem_ready] at hi
    obtain ⟨h0, o, ho, hdep⟩ := hi
    have hlt : i < ops.size := (Array.getElem?_eq_some_iff.1 ho).1
    have hlt' : i < listed.size := by omega
    have hf : lis listed i = false := by simp [hlt'] at h0; simp [lis, hlt', h0]
    have hs := hstep (lis listed) a w i o hI ho hf hdep
    have go : ∀ a' w', I (up (lis listed) i) a' w' → wpAny P md ops Q fuel (listed.setIfInBounds i true) a' w' := fun a' w' h => by
      refine ih _ a' w' (by simpa using hsz) ?_ (by rw [lis_set hlt']; exact h)
      rw [lis_set hlt']
      have := cnt_up hf ops.size
      rw [if_pos hlt] at this
      omega
    unfold wpOp
    simp only [ho]
    rcases hs with ⟨hw, hs⟩ | ⟨hw, hs⟩
    · rw [if_pos hw]
      left
      exact Oper.wp_mono go hs
    · rw [hw]
      simp only [Bool.false_eq_true, if_false]
      exact go _ _ hs

theorem region_inv {id : Nat} {a : Act} {w : World} (hm : P.follows .mixedOrders = true) (hback : ∀ (i : Nat) (o : Oper), ops[i]? = some o → ∀ e ∈ o.after, Region.binds .any e = true → e.on < i) (I : (Nat → Bool) → Act → World → Prop)
    (hstep : ∀ (L : Nat → Bool) (a : Act) (w : World) (i : Nat) (o : Oper), I L a w → ops[i]? = some o → L i = false → (∀ e ∈ o.after, Region.binds .any e = true → L e.on = true) → (Region.wanted o (yielded ops a.tmps) = true ∧ o.wp P a w (fun a' w' => I (up L i) a' w') Q) ∨ (Region.wanted o (yielded ops a.tmps) = false ∧ I (up L i) (a.put o.dst undef) w))
    (hend : ∀ (L : Nat → Bool) (a : Act) (w : World), I L a w → (∀ i, i < ops.size → L i = true) → Q .normal a w)
    (h0 : I (fun _ => false) a { w with drawn := w.drawn + 1 }) : (Code.region id ops true).wp P Q a w := by
  refine wp_region_any hm (wpAny_inv hback I hstep hend _ _ a _ (by simp) ?_ ?_)
  · exact cnt_le _ _
  · have : lis (Array.replicate ops.size false) = fun _ => false := by
      funext i
      simp [lis, Array.getElem?_replicate]
      split <;> rfl
    rw [this]
    exact h0
end

theorem put_eval {a : Act} {d : Nat} {v : Value} (h : d < a.tmps.size) : (a.put (some d) v).eval (.tmp d) = v := by
  simp [Act.put, Act.eval, h]
theorem put_other {a : Act} {d k : Nat} {v : Value} (h : k ≠ d) : (a.put (some d) v).eval (.tmp k) = a.eval (.tmp k) :=
  Act.eval_put (fun d' hd he => by cases hd; cases he; exact h rfl)
theorem put_size {a : Act} {d : Option Nat} {v : Value} : (a.put d v).tmps.size = a.tmps.size := by
  cases d <;> simp [Act.put]
theorem put_defs {a : Act} {d : Option Nat} {v : Value} : (a.put d v).defers = a.defers := by
  cases d <;> rfl

def look (l : List (Nat × Nat)) (i : Nat) : Option Nat := (l.find? (fun p => p.1 == i)).map (·.2)
theorem look_mem {l : List (Nat × Nat)} {i d : Nat} (h : look l i = some d) : (i, d) ∈ l := by
  unfold look at h
  obtain ⟨p, hp, hd⟩ := Option.map_eq_some_iff.1 h
  have h1 := List.find?_some hp
  have h2 := List.mem_of_find?_eq_some hp
  simp at h1
  subst h1; subst hd
  exact h2
theorem notD {b : Bool} (h : b = false) : ¬ b = true := by simp [h]
def pv (ks : List (Nat × Nat)) (vals : Nat → Value) (i : Nat) : Option (Nat × Value) := (look ks i).map (fun d => (d, vals i))
def D (ks : List (Nat × Nat)) (k : Nat) : Prop := (ks.any (fun p => p.2 == k)) = true

structure In (ks : List (Nat × Nat)) (vals : Nat → Value) (WI : World → Prop) (a0 : Act) (L : Nat → Bool) (a : Act) (w : World) : Prop where
  sz : a.tmps.size = a0.tmps.size
  df : a.defers = a0.defers
  fix : ∀ k, ¬ D ks k → a.eval (.tmp k) = a0.eval (.tmp k)
  pure : ∀ i d v, pv ks vals i = some (d, v) → L i = true → a.eval (.tmp d) = v
  world : WI w

abbrev Deps (o : Oper) (L : Nat → Bool) : Prop := ∀ e ∈ o.after, Region.binds .any e = true → L e.on = true

/-- What operation i does. -/
inductive Does (P : Program) (Q : Exit → Act → World → Prop) (ops : Array Oper) (ks : List (Nat × Nat)) (vals : Nat → Value) (WI : World → Prop) (a0 : Act) (i : Nat) (o : Oper) : Prop where
  | run (dst : o.dst = look ks i) (wn : ∀ L a w, In ks vals WI a0 L a w → Deps o L → Region.wanted o (yielded ops a.tmps) = true) (wp : ∀ L a w (K : Act → World → Prop), In ks vals WI a0 L a w → Deps o L → (∀ w' v, (∀ d, o.dst = some d → v = vals i) → WI w' → K (a.put o.dst v) w') → o.wp P a w K Q)
  | skip (dst : o.dst = look ks i) (wn : ∀ L a w, In ks vals WI a0 L a w → Deps o L → Region.wanted o (yielded ops a.tmps) = false) (hv : vals i = undef)

theorem region {P : Program} {id : Nat} {ops : Array Oper} {Q : Exit → Act → World → Prop} {ks : List (Nat × Nat)} {vals : Nat → Value} {WI : World → Prop} {w0 : World} {a0 : Act}
    (hm : P.follows .mixedOrders = true) (hback : ∀ (i : Nat) (o : Oper), ops[i]? = some o → ∀ e ∈ o.after, Region.binds .any e = true → e.on < i)
    (hgood : (ks.all fun p => ks.all fun q => p.1 == q.1 || p.2 != q.2) = true) (hD : ∀ k, D ks k → k < a0.tmps.size) (hW0 : WI { w0 with drawn := w0.drawn + 1 })
    (does : ∀ (i : Nat) (o : Oper), ops[i]? = some o → Does P Q ops ks vals WI a0 i o)
    (fin : ∀ L a w, In ks vals WI a0 L a w → (∀ i, i < ops.size → L i = true) → Q .normal a w) :
    (Code.region id ops true).wp P Q a0 w0 := by
  simp only [List.all_eq_true, bne_iff_ne, Bool.or_eq_true, beq_iff_eq] at hgood
  have pvm : ∀ {i d v}, pv ks vals i = some (d, v) → (i, d) ∈ ks := fun {i d v} h => by
    obtain ⟨d', h1, h2⟩ := Option.map_eq_some_iff.1 h
    cases h2; exact look_mem h1
  refine region_inv hm hback (fun L a w => In ks vals WI a0 L a w) ?step (fun L a w h hall => fin L a w h hall) ?start
  case start => exact ⟨rfl, rfl, fun _ _ => rfl, fun _ _ _ _ h => (by cases h), hW0⟩
  case step =>
    rintro L a w i o h ho hL hd
    have on : ∀ w' v, o.dst = look ks i → (∀ d, o.dst = some d → v = vals i) → WI w' → In ks vals WI a0 (up L i) (a.put o.dst v) w' := fun w' v hdst hv hW => by
      cases hlk : look ks i with
      | none =>
        rw [hdst, hlk]
        refine ⟨h.sz, h.df, h.fix, fun j d' v' hj hLj => h.pure j d' v' hj ?_, hW⟩
        have hji : j ≠ i := fun e => by
          subst e
          obtain ⟨d'', h1, _⟩ := Option.map_eq_some_iff.1 hj
          rw [hlk] at h1; cases h1
        rwa [up_other _ hji] at hLj
      | some d =>
        have hv' := hv d (hdst.trans hlk)
        subst hv'
        rw [hdst, hlk]
        have hm' : (i, d) ∈ ks := look_mem hlk
        have hDd : D ks d := by simp only [D, List.any_eq_true, beq_iff_eq]; exact ⟨_, hm', rfl⟩
        have e : ∀ k : Nat, k ≠ d → (a.put (some d) (vals i)).eval (.tmp k) = a.eval (.tmp k) := fun k hk => put_other hk
        refine ⟨by rw [put_size]; exact h.sz, by rw [put_defs]; exact h.df, fun k hk => ?_, fun j d' v' hj hLj => ?_, hW⟩
        · rw [e k (fun he => hk (he ▸ hDd))]; exact h.fix k hk
        · by_cases hij : j = i
          · subst hij
            rw [pv, hlk] at hj
            cases hj
            exact put_eval (by rw [h.sz]; exact hD _ hDd)
          · rw [up_other _ hij] at hLj
            have : d' ≠ d := by
              rcases hgood _ hm' _ (pvm hj) with e1 | e1
              · exact absurd e1.symm hij
              · exact Ne.symm e1
            rw [e d' this]
            exact h.pure j d' v' hj hLj
    rcases does i o ho with ⟨hdst, hwn, hwp⟩ | ⟨hdst, hwn, hv⟩
    · exact .inl ⟨hwn L a w h hd, hwp L a w _ h hd (fun w' v hv hW => on w' v hdst hv hW)⟩
    · exact .inr ⟨hwn L a w h hd, on w undef hdst (fun _ _ => hv.symm) h.world⟩

section
variable {P : Program} {Q : Exit → Act → World → Prop} {ops : Array Oper} {ks : List (Nat × Nat)} {vals : Nat → Value} {WI : World → Prop} {a0 : Act} {i : Nat} {o : Oper}
theorem wn0 (hg : o.guard = none) {y : Nat → Option Bool} : Region.wanted o y = true := by simp [Region.wanted, hg]
theorem wnG {a : Act} {j d : Nat} {b c q : Bool} (hg : o.guard = some (j, b)) (hd : (ops[j]?).bind (·.dst) = some d) (hv : a.eval (.tmp d) = .bool c) (hq : (c == b) = q) : Region.wanted o (yielded ops a.tmps) = q := by
  have e : a.tmps[d]? = some (.bool c) := by
    cases h : a.tmps[d]? with
    | none => simp [Act.eval, h, undef] at hv
    | some v => simp [Act.eval, h] at hv; rw [hv]
  unfold Region.wanted yielded
  rw [hg]
  simp only [hd, Option.bind_some, e]
  rw [← hq]
  cases b <;> cases c <;> rfl

theorem wp_value {a : Act} {w : World} {K : Act → World → Prop} {v : Value} {w' : World} (h : (execOp a.eval o).run P w = .ok (.value v) w') (hk : K (a.put o.dst v) w') : o.wp P a w K Q := by
  unfold Oper.wp; rw [h]; exact hk
theorem wp_call {a : Act} {w : World} {K : Act → World → Prop} {f : FuncId} {args : Array Value} (hrun : (execOp a.eval o).run P w = .ok (.enter f args) w) (hc : Calls P f args w fun e w' => ∃ v, e = .returned v ∧ K (a.put o.dst v) w') : o.wp P a w K Q := by
  unfold Oper.wp
  rw [hrun, Oper.upon_enter]
  exact hc.mono (fun e w' ⟨v, he, hk⟩ => by subst he; exact hk)

/-- It only reads. -/
theorem Does.read (hd : o.dst = look ks i) (wn : ∀ L a w, In ks vals WI a0 L a w → Deps o L → Region.wanted o (yielded ops a.tmps) = true) (h : ∀ L a w, In ks vals WI a0 L a w → Deps o L → (execOp a.eval o).run P w = .ok (.value (vals i)) w) : Does P Q ops ks vals WI a0 i o :=
  .run hd wn fun L a w K hI hdep hk => wp_value (h L a w hI hdep) (hk w _ (fun _ _ => rfl) hI.world)
/-- It makes memory, or writes its own. -/
theorem Does.make (hd : o.dst = look ks i) (wn : ∀ L a w, In ks vals WI a0 L a w → Deps o L → Region.wanted o (yielded ops a.tmps) = true) (h : ∀ L a w, In ks vals WI a0 L a w → Deps o L → ∃ w', (execOp a.eval o).run P w = .ok (.value (vals i)) w' ∧ WI w') : Does P Q ops ks vals WI a0 i o :=
  .run hd wn fun L a w K hI hdep hk => by
    obtain ⟨w', h1, h2⟩ := h L a w hI hdep
    exact wp_value h1 (hk w' _ (fun _ _ => rfl) h2)
/-- A call. -/
theorem Does.call {f : FuncId} {args : Array Value} (hd : o.dst = look ks i) (wn : ∀ L a w, In ks vals WI a0 L a w → Deps o L → Region.wanted o (yielded ops a.tmps) = true) (h : ∀ L a w, In ks vals WI a0 L a w → Deps o L → (execOp a.eval o).run P w = .ok (.enter f args) w)
    (hc : ∀ w, WI w → Calls P f args w fun e w' => e = .returned (vals i) ∧ WI w') : Does P Q ops ks vals WI a0 i o :=
  .run hd wn fun L a w K hI hdep hk => wp_call (h L a w hI hdep) ((hc w hI.world).mono (by rintro e w' ⟨rfl, hw⟩; exact ⟨_, rfl, hk _ _ (fun _ _ => rfl) hw⟩))
end

/-- A frame, slot by slot. -/
theorem act_eq (a : Act) (l : List Value) (hd : a.defers = []) (hn : a.tmps.size = l.length) (h : ∀ k, k < l.length → a.eval (.tmp k) = l.getD k undef) : a = ⟨l.toArray, []⟩ := by
  obtain ⟨tmps, defers⟩ := a
  simp only at hn hd
  subst hd
  congr 1
  apply Array.ext
  · simp [hn]
  · intro i h1 h2
    have := h i (by omega)
    have h3 : i < l.length := by omega
    simpa [Act.eval, h1, h3] using this

/-! ### Single operations -/
section
variable {ev : Operand → Value} {o : Oper} {w : World}
theorem ex_move {x : Operand} {v : Value} (ho : o.op = .move x) (hx : ev x = v) : (execOp ev o).run Tryz.prog w = .ok (.value v) w := by simp [execOp, ho, hx]
theorem ex_assign {x : Operand} {v : Value} (ho : o.op = .assign x) (hx : ev x = v) : (execOp ev o).run Tryz.prog w = .ok (.value v) w := by simp [execOp, ho, hx]
theorem ex_extract {x : Operand} {vs : Array Value} {i : Nat} {v : Value} (ho : o.op = .extract x i) (hx : ev x = .tuple vs) (hv : vs[i]? = some v) : (execOp ev o).run Tryz.prog w = .ok (.value v) w := by
  simp [execOp, ho, hx, go_sem, hv]
theorem ex_pick {x y z : Operand} {b : Bool} {v : Value} (ho : o.op = .pick x y z) (hx : ev x = .bool b) (hv : (if b = true then ev y else ev z) = v) : (execOp ev o).run Tryz.prog w = .ok (.value v) w := by
  cases b <;> simp at hv <;> simp [execOp, ho, hx, hv, go_sem]
theorem ex_load {x : Operand} {ty : TypeId} {a : Addr} {v : Value} (ho : o.op = .load ty x) (hx : ev x = .pointer (some a)) (hagg : (isAgg ty).run Tryz.prog w = .ok false w) (hc : w.cell? a = some v) : (execOp ev o).run Tryz.prog w = .ok (.value v) w := by
  simp [execOp, ho, hx, Instr.loadAt, Instr.sureAddr, loadVar, Sem.run_bind, hagg, go_sem, hc]
theorem ex_field {x : Operand} {b k q : Nat} {ty : TypeId} (ho : o.op = .fieldAddr ty x k) (hx : ev x = .pointer (some ⟨b, 0, none⟩)) (hf : (Instr.fieldAt ty (.pointer (some ⟨b, 0, none⟩)) k).run Tryz.prog w = .ok (.pointer (some ⟨b, q, none⟩)) w) : (execOp ev o).run Tryz.prog w = .ok (.value (.pointer (some ⟨b, q, none⟩))) w := by
  simp [execOp, ho, hx, hf]
theorem call1 {f : FuncId} {x0 : Operand} {ts : Array TypeId} {v0 : Value} (ho : o.op = Op.call { callee := Callee.value (Operand.func f), args := #[x0], argTypes := ts }) (h0 : ev x0 = v0) (hf : ev (Operand.func f) = .func (.func f) #[] #[]) (hcf : (callFunc f #[v0]).run Tryz.prog w = .ok (.enter f #[v0]) w) :
    (execOp ev o).run Tryz.prog w = .ok (.enter f #[v0]) w := by
  simp [execOp, ho, h0, hf, resolve, invoke, go_sem, hcf]
theorem call2 {f : FuncId} {x0 x1 : Operand} {ts : Array TypeId} {v0 v1 : Value} (ho : o.op = Op.call { callee := Callee.value (Operand.func f), args := #[x0, x1], argTypes := ts }) (h0 : ev x0 = v0) (h1 : ev x1 = v1) (hf : ev (Operand.func f) = .func (.func f) #[] #[]) (hcf : (callFunc f #[v0, v1]).run Tryz.prog w = .ok (.enter f #[v0, v1]) w) :
    (execOp ev o).run Tryz.prog w = .ok (.enter f #[v0, v1]) w := by
  simp [execOp, ho, h0, h1, hf, resolve, invoke, go_sem, hcf]
theorem call3 {f : FuncId} {x0 x1 x2 : Operand} {ts : Array TypeId} {v0 v1 v2 : Value} (ho : o.op = Op.call { callee := Callee.value (Operand.func f), args := #[x0, x1, x2], argTypes := ts }) (h0 : ev x0 = v0) (h1 : ev x1 = v1) (h2 : ev x2 = v2) (hf : ev (Operand.func f) = .func (.func f) #[] #[]) (hcf : (callFunc f #[v0, v1, v2]).run Tryz.prog w = .ok (.enter f #[v0, v1, v2]) w) :
    (execOp ev o).run Tryz.prog w = .ok (.enter f #[v0, v1, v2]) w := by
  simp [execOp, ho, h0, h1, h2, hf, resolve, invoke, go_sem, hcf]
theorem call4 {f : FuncId} {x0 x1 x2 x3 : Operand} {ts : Array TypeId} {v0 v1 v2 v3 : Value} (ho : o.op = Op.call { callee := Callee.value (Operand.func f), args := #[x0, x1, x2, x3], argTypes := ts }) (h0 : ev x0 = v0) (h1 : ev x1 = v1) (h2 : ev x2 = v2) (h3 : ev x3 = v3) (hf : ev (Operand.func f) = .func (.func f) #[] #[]) (hcf : (callFunc f #[v0, v1, v2, v3]).run Tryz.prog w = .ok (.enter f #[v0, v1, v2, v3]) w) :
    (execOp ev o).run Tryz.prog w = .ok (.enter f #[v0, v1, v2, v3]) w := by
  simp [execOp, ho, h0, h1, h2, h3, hf, resolve, invoke, go_sem, hcf]
theorem ex_addI {x y : Operand} {m n z : Int} (ho : o.op = .binOp .add 3 x y 3) (hx : ev x = .int .i64 m) (hy : ev y = .int .i64 n) (hz : IntKind.i64.wrap (m + n) = z) : (execOp ev o).run Tryz.prog w = .ok (.value (.int .i64 z)) w := by
  subst hz; simp [execOp, ho, hx, hy, go_sem]
theorem ex_subI {x y : Operand} {m n z : Int} (ho : o.op = .binOp .sub 3 x y 3) (hx : ev x = .int .i64 m) (hy : ev y = .int .i64 n) (hz : IntKind.i64.wrap (m - n) = z) : (execOp ev o).run Tryz.prog w = .ok (.value (.int .i64 z)) w := by
  subst hz; simp [execOp, ho, hx, hy, go_sem]
theorem ex_mulI {x y : Operand} {m n z : Int} (ho : o.op = .binOp .mul 3 x y 3) (hx : ev x = .int .i64 m) (hy : ev y = .int .i64 n) (hz : IntKind.i64.wrap (m * n) = z) : (execOp ev o).run Tryz.prog w = .ok (.value (.int .i64 z)) w := by
  subst hz; simp [execOp, ho, hx, hy, go_sem]
theorem ex_quoI {x y : Operand} {m n z : Int} (ho : o.op = .binOp .quo 3 x y 3) (hx : ev x = .int .i64 m) (hy : ev y = .int .i64 n) (hn : ¬ n = 0) (hz : IntKind.i64.wrap (m.tdiv n) = z) : (execOp ev o).run Tryz.prog w = .ok (.value (.int .i64 z)) w := by
  subst hz; simp [execOp, ho, hx, hy, go_sem, hn]
theorem ex_remI {x y : Operand} {m n z : Int} (ho : o.op = .binOp .rem 3 x y 3) (hx : ev x = .int .i64 m) (hy : ev y = .int .i64 n) (hn : ¬ n = 0) (hz : m.tmod n = z) : (execOp ev o).run Tryz.prog w = .ok (.value (.int .i64 z)) w := by
  subst hz; simp [execOp, ho, hx, hy, go_sem, hn]
theorem isRow_of {ty : TypeId} (h : (Tryz.prog.underlying ty).map (fun d => d.isRow) = some true) : ∃ d, Tryz.prog.underlying ty = some d ∧ d.isRow = true := Option.map_eq_some_iff.1 h
theorem ex_load_row {x : Operand} {ty : TypeId} {b off : Nat} {cs : List Value} (ho : o.op = .load ty x) (hx : ev x = .pointer (some ⟨b, off, none⟩)) (hc : w.rangeAt b off cs) (hu : (Tryz.prog.underlying ty).map (fun d => d.isRow) = some true) (hi : (Tryz.prog.info? ty).map (·.size) = some cs.length) :
    (execOp ev o).run Tryz.prog w = .ok (.value (.agg cs.toArray)) w := by
  obtain ⟨d, h1, h2⟩ := isRow_of hu
  simp [execOp, ho, hx, run_loadAt_mid w b off ty cs d hc h1 h2 hi]
end
end Lt
end Go.Proofs.YtecjegjnnahddaaGreat

/-
  Shape: Root and Slot of the package, for every shape and numbers.
-/
namespace Go.Proofs.YtecjegjnnahddaaGreat
open Go.RowKit
set_option linter.unusedVariables false
set_option linter.unusedSimpArgs false
set_option linter.unnecessarySimpa false
set_option maxRecDepth 20000
namespace Shape
theorem rng {w' : World} {b : Nat} {v0 v1 v2 v3 v4 v5 : Value} (y0 : w'.cell? ⟨b, 0, none⟩ = some v0) (y1 : w'.cell? ⟨b, 1, none⟩ = some v1) (y2 : w'.cell? ⟨b, 2, none⟩ = some v2) (y3 : w'.cell? ⟨b, 3, none⟩ = some v3) (y4 : w'.cell? ⟨b, 4, none⟩ = some v4) (y5 : w'.cell? ⟨b, 5, none⟩ = some v5) : w'.rangeAt b 0 [v0, v1, v2, v3, v4, v5] := by
  intro j v hv
  match j, hv with
  | 0, hv => cases hv; simpa using y0
  | 1, hv => cases hv; simpa using y1
  | 2, hv => cases hv; simpa using y2
  | 3, hv => cases hv; simpa using y3
  | 4, hv => cases hv; simpa using y4
  | 5, hv => cases hv; simpa using y5

theorem root_bad {s0 s1 s2 s3 s4 s5 : Int} {a b : Int} (H : ¬ R5 s0 s1 s2 s3 s4) (w : World) : Calls Tryz.prog 82 #[.agg #[.int .i64 s0, .int .i64 s1, .int .i64 s2, .int .i64 s3, .int .i64 s4, .int .i64 s5], .int .i64 a, .int .i64 b] w fun e w' => e = .returned (.tuple #[.int .i64 0, .int .i64 120]) ∧ Below w.heap.size w w' := by
  have HH := hide H
  clear H
  obtain ⟨q1, T1⟩ : ∃ q1, Hid (∀ w1 : World, Calls Tryz.prog 97 #[.int .i64 a, .int .i64 s2] w1 fun e w' => e = .returned (.bool q1) ∧ w' = w1) := ⟨_, fun w1 => isn_any w1⟩
  obtain ⟨q2, T2⟩ : ∃ q2, Hid (∀ w1 : World, Calls Tryz.prog 97 #[.int .i64 b, .int .i64 s3] w1 fun e w' => e = .returned (.bool q2) ∧ w' = w1) := ⟨_, fun w1 => isn_any w1⟩
  obtain ⟨W0, hW0, B0, K⟩ := box w s0 s1 s2 s3 s4 s5
  have HB := hide B0
  obtain ⟨-, l0, x0, x1, x2, x3, x4, x5⟩ := K.out W0 (Below.refl _ _)
  clear B0
  cases q1
  · go_enter Tryz.func82, Tryz.ntmps82
    go_wp2_with fail
    refine Lt.region (ks := [(0, 9), (1, 10), (2, 11), (3, 12), (4, 13), (5, 14), (6, 15), (7, 16), (8, 17), (9, 18), (10, 19), (11, 20), (12, 8)]) (vals := fun iv => match iv with
        | 0 => .agg #[.int .i64 s0, .int .i64 s1, .int .i64 s2, .int .i64 s3, .int .i64 s4, .int .i64 s5]
        | 1 => .int .i64 a
        | 2 => .pointer (some ⟨w.heap.size, 2, none⟩)
        | 3 => .int .i64 s2
        | 4 => .bool false
        | 5 => .bool false
        | 6 => undef
        | 7 => undef
        | 8 => undef
        | 9 => undef
        | 10 => .bool false
        | 11 => .int .i64 120
        | 12 => .int .i64 120
        | _ => undef) (WI := fun w' => Below W0.heap.size W0 w') (by kernel_rfl) ?bk rfl ?dd (⟨rfl, rfl, rfl, Nat.le_refl _, fun _ _ => rfl⟩) ?does ?fin
    case bk =>
      intro iq oq ho
      have hiq : iq < 13 := by have := (Array.getElem?_eq_some_iff.1 ho).1; simpa using this
      match iq, hiq with
      | 0, _ | 1, _ | 2, _ | 3, _ | 4, _ | 5, _ | 6, _ | 7, _ | 8, _ | 9, _ | 10, _ | 11, _ | 12, _ => injection ho with ho; subst ho; simp [Region.binds]
    case dd =>
      intro k hk
      have hk' : k < 28 := by
        simp [Lt.D] at hk
        omega
      simpa using hk'
    case does =>
      intro iq oq ho
      have hiq : iq < 13 := by have := (Array.getElem?_eq_some_iff.1 ho).1; simpa using this
      match iq, hiq with
      | 0, _ => injection ho with ho; subst ho; exact Lt.Does.read rfl (fun Lq aq w' hI hq => Lt.wn0 rfl) (fun Lq aq w' hI hq => Lt.ex_load_row rfl (hI.fix 3 (Lt.notD rfl)) (by obtain ⟨-, -, y0, y1, y2, y3, y4, y5⟩ := K.out w' hI.world; exact rng y0 y1 y2 y3 y4 y5) (by kernel_rfl) (by kernel_rfl))
      | 1, _ => injection ho with ho; subst ho; exact Lt.Does.read rfl (fun Lq aq w' hI hq => Lt.wn0 rfl) (fun Lq aq w' hI hq => Lt.ex_move rfl (hI.fix 1 (Lt.notD rfl)))
      | 2, _ => injection ho with ho; subst ho; exact Lt.Does.read rfl (fun Lq aq w' hI hq => Lt.wn0 rfl) (fun Lq aq w' hI hq => Lt.ex_field rfl (hI.fix 3 (Lt.notD rfl)) (by simp [go_sem]))
      | 3, _ => injection ho with ho; subst ho; exact Lt.Does.read rfl (fun Lq aq w' hI hq => Lt.wn0 rfl) (fun Lq aq w' hI hq => Lt.ex_load rfl (hI.pure 2 _ _ rfl (hq ⟨2, .data⟩ (by simp) rfl)) (by simp [go_sem]) (by obtain ⟨-, -, y0, y1, y2, y3, y4, y5⟩ := K.out w' hI.world; exact y2))
      | 4, _ => injection ho with ho; subst ho; exact Lt.Does.call rfl (fun Lq aq w' hI hq => Lt.wn0 rfl) (fun Lq aq w' hI hq => Lt.call2 rfl (hI.pure 1 _ _ rfl (hq ⟨1, .data⟩ (by simp) rfl)) (hI.pure 3 _ _ rfl (hq ⟨3, .data⟩ (by simp) rfl)) rfl (by simp [go_sem])) (fun w1 hw1 => (T1.out w1).mono (by rintro e w2 ⟨rfl, hw2⟩; obtain rfl := hw2.symm; exact ⟨rfl, hw1⟩))
      | 5, _ => injection ho with ho; subst ho; exact Lt.Does.read rfl (fun Lq aq w' hI hq => Lt.wn0 rfl) (fun Lq aq w' hI hq => Lt.ex_move rfl (hI.pure 4 _ _ rfl (hq ⟨4, .data⟩ (by simp) rfl)))
      | 6, _ => injection ho with ho; subst ho; exact .skip rfl (fun Lq aq w' hI hq => Lt.wnG (d := 14) (c := false) rfl rfl (hI.pure 5 _ _ rfl (hq ⟨5, .guard⟩ (by simp) rfl)) rfl) rfl
      | 7, _ => injection ho with ho; subst ho; exact .skip rfl (fun Lq aq w' hI hq => Lt.wnG (d := 14) (c := false) rfl rfl (hI.pure 5 _ _ rfl (hq ⟨5, .guard⟩ (by simp) rfl)) rfl) rfl
      | 8, _ => injection ho with ho; subst ho; exact .skip rfl (fun Lq aq w' hI hq => Lt.wnG (d := 14) (c := false) rfl rfl (hI.pure 5 _ _ rfl (hq ⟨5, .guard⟩ (by simp) rfl)) rfl) rfl
      | 9, _ => injection ho with ho; subst ho; exact .skip rfl (fun Lq aq w' hI hq => Lt.wnG (d := 14) (c := false) rfl rfl (hI.pure 5 _ _ rfl (hq ⟨5, .guard⟩ (by simp) rfl)) rfl) rfl
      | 10, _ => injection ho with ho; subst ho; exact Lt.Does.read rfl (fun Lq aq w' hI hq => Lt.wn0 rfl) (fun Lq aq w' hI hq => Lt.ex_pick (b := false) rfl (hI.pure 5 _ _ rfl (hq ⟨5, .data⟩ (by simp) rfl)) (by first | exact rfl | simpa using rfl))
      | 11, _ => injection ho with ho; subst ho; exact Lt.Does.call rfl (fun Lq aq w' hI hq => Lt.wn0 rfl) (fun Lq aq w' hI hq => Lt.call2 rfl (hI.pure 0 _ _ rfl (hq ⟨0, .data⟩ (by simp) rfl)) (hI.pure 10 _ _ rfl (hq ⟨10, .data⟩ (by simp) rfl)) rfl (by simp [go_sem])) (fun w1 hw1 => (cw_bad HH.out _ w1).mono (by rintro e w2 ⟨rfl, hb⟩; exact ⟨rfl, hw1.trans (hb.mono hw1.size)⟩))
      | 12, _ => injection ho with ho; subst ho; exact Lt.Does.read rfl (fun Lq aq w' hI hq => Lt.wn0 rfl) (fun Lq aq w' hI hq => Lt.ex_assign rfl (hI.pure 11 _ _ rfl (hq ⟨11, .data⟩ (by simp) rfl)))
    case fin =>
      intro Lq a' w' hI hall
      have hw := hI.world
      obtain rfl : a' = ⟨#[.agg #[.int .i64 s0, .int .i64 s1, .int .i64 s2, .int .i64 s3, .int .i64 s4, .int .i64 s5], .int .i64 a, .int .i64 b, .pointer (some ⟨w.heap.size, 0, none⟩), undef, undef, .int .i64 0, .int .i64 0, .int .i64 120, .agg #[.int .i64 s0, .int .i64 s1, .int .i64 s2, .int .i64 s3, .int .i64 s4, .int .i64 s5], .int .i64 a, .pointer (some ⟨w.heap.size, 2, none⟩), .int .i64 s2, .bool false, .bool false, undef, undef, undef, undef, .bool false, .int .i64 120, undef, undef, undef, undef, undef, undef, undef], []⟩ := Lt.act_eq a' [.agg #[.int .i64 s0, .int .i64 s1, .int .i64 s2, .int .i64 s3, .int .i64 s4, .int .i64 s5], .int .i64 a, .int .i64 b, .pointer (some ⟨w.heap.size, 0, none⟩), undef, undef, .int .i64 0, .int .i64 0, .int .i64 120, .agg #[.int .i64 s0, .int .i64 s1, .int .i64 s2, .int .i64 s3, .int .i64 s4, .int .i64 s5], .int .i64 a, .pointer (some ⟨w.heap.size, 2, none⟩), .int .i64 s2, .bool false, .bool false, undef, undef, undef, undef, .bool false, .int .i64 120, undef, undef, undef, undef, undef, undef, undef] hI.df (by rw [hI.sz]; rfl) (fun k hk => by
        have hk' : k < 28 := hk
        match k, hk' with
        | 0, _ => exact hI.fix 0 (Lt.notD rfl)
        | 1, _ => exact hI.fix 1 (Lt.notD rfl)
        | 2, _ => exact hI.fix 2 (Lt.notD rfl)
        | 3, _ => exact hI.fix 3 (Lt.notD rfl)
        | 4, _ => exact hI.fix 4 (Lt.notD rfl)
        | 5, _ => exact hI.fix 5 (Lt.notD rfl)
        | 6, _ => exact hI.fix 6 (Lt.notD rfl)
        | 7, _ => exact hI.fix 7 (Lt.notD rfl)
        | 8, _ => exact hI.pure 12 8 _ rfl (hall 12 (by decide))
        | 9, _ => exact hI.pure 0 9 _ rfl (hall 0 (by decide))
        | 10, _ => exact hI.pure 1 10 _ rfl (hall 1 (by decide))
        | 11, _ => exact hI.pure 2 11 _ rfl (hall 2 (by decide))
        | 12, _ => exact hI.pure 3 12 _ rfl (hall 3 (by decide))
        | 13, _ => exact hI.pure 4 13 _ rfl (hall 4 (by decide))
        | 14, _ => exact hI.pure 5 14 _ rfl (hall 5 (by decide))
        | 15, _ => exact hI.pure 6 15 _ rfl (hall 6 (by decide))
        | 16, _ => exact hI.pure 7 16 _ rfl (hall 7 (by decide))
        | 17, _ => exact hI.pure 8 17 _ rfl (hall 8 (by decide))
        | 18, _ => exact hI.pure 9 18 _ rfl (hall 9 (by decide))
        | 19, _ => exact hI.pure 10 19 _ rfl (hall 10 (by decide))
        | 20, _ => exact hI.pure 11 20 _ rfl (hall 11 (by decide))
        | 21, _ => exact hI.fix 21 (Lt.notD rfl)
        | 22, _ => exact hI.fix 22 (Lt.notD rfl)
        | 23, _ => exact hI.fix 23 (Lt.notD rfl)
        | 24, _ => exact hI.fix 24 (Lt.notD rfl)
        | 25, _ => exact hI.fix 25 (Lt.notD rfl)
        | 26, _ => exact hI.fix 26 (Lt.notD rfl)
        | 27, _ => exact hI.fix 27 (Lt.notD rfl)
        | q + 28, hq => exact absurd hq (by omega))
      rename_i K2 hK2
      refine hK2 _ _ ?_
      go_wp2_with fail
      go_ret2
      exact ⟨rfl, (K.out _ hw).1⟩
  · go_enter Tryz.func82, Tryz.ntmps82
    go_wp2_with fail
    go_region_held (fun w' => w'.cell? ⟨w.heap.size, 0, none⟩ = some (.int .i64 s0) ∧ w'.cell? ⟨w.heap.size, 1, none⟩ = some (.int .i64 s1) ∧ w'.cell? ⟨w.heap.size, 2, none⟩ = some (.int .i64 s2) ∧ w'.cell? ⟨w.heap.size, 3, none⟩ = some (.int .i64 s3) ∧ w'.cell? ⟨w.heap.size, 4, none⟩ = some (.int .i64 s4) ∧ w'.cell? ⟨w.heap.size, 5, none⟩ = some (.int .i64 s5)) (go_keep) (first | (go_at_call 97; first | (have hz := GU.out; clear hz; refine (T2.out _).mono ?_; rintro e wq ⟨rfl, hwq⟩; obtain rfl := hwq.symm) | (refine (T1.out _).mono ?_; rintro e wq ⟨rfl, hwq⟩; obtain rfl := hwq.symm; have GU := hide True.intro)) | (go_at_call 96; refine (cw_bad HH.out _ _).mono ?_; rintro e w1 ⟨rfl, hb1⟩; have HB1 := hide (show Below W0.heap.size W0 w1 from ⟨hb1.os, hb1.tape, hb1.output, hb1.size, hb1.block⟩); clear hb1; obtain ⟨-, m1, y10, y11, y12, y13, y14, y15⟩ := K.out w1 HB1.out))
    all_goals go_wp2_with fail
    all_goals go_ret2
    all_goals exact ⟨rfl, (K.out _ HB1.out).1⟩

theorem root_arg1 {s0 s1 s2 s3 s4 s5 : Int} {a b : Int} (H : R5 s0 s1 s2 s3 s4) (ha : ¬ (0 ≤ a ∧ a < s2)) (w : World) : Calls Tryz.prog 82 #[.agg #[.int .i64 s0, .int .i64 s1, .int .i64 s2, .int .i64 s3, .int .i64 s4, .int .i64 s5], .int .i64 a, .int .i64 b] w fun e w' => e = .returned (.tuple #[.int .i64 0, .int .i64 2]) ∧ Below w.heap.size w w' := by
  have HH := hide H
  have T1 := hide (fun w1 : World => isn_f ha w1)
  clear H ha
  obtain ⟨W0, hW0, B0, K⟩ := box w s0 s1 s2 s3 s4 s5
  have HB := hide B0
  obtain ⟨-, l0, x0, x1, x2, x3, x4, x5⟩ := K.out W0 (Below.refl _ _)
  clear B0
  go_enter Tryz.func82, Tryz.ntmps82
  go_wp2_with fail
  refine Lt.region (ks := [(0, 9), (1, 10), (2, 11), (3, 12), (4, 13), (5, 14), (6, 15), (7, 16), (8, 17), (9, 18), (10, 19), (11, 20), (12, 8)]) (vals := fun iv => match iv with
      | 0 => .agg #[.int .i64 s0, .int .i64 s1, .int .i64 s2, .int .i64 s3, .int .i64 s4, .int .i64 s5]
      | 1 => .int .i64 a
      | 2 => .pointer (some ⟨w.heap.size, 2, none⟩)
      | 3 => .int .i64 s2
      | 4 => .bool false
      | 5 => .bool false
      | 6 => undef
      | 7 => undef
      | 8 => undef
      | 9 => undef
      | 10 => .bool false
      | 11 => .int .i64 2
      | 12 => .int .i64 2
      | _ => undef) (WI := fun w' => Below W0.heap.size W0 w') (by kernel_rfl) ?bk rfl ?dd (⟨rfl, rfl, rfl, Nat.le_refl _, fun _ _ => rfl⟩) ?does ?fin
  case bk =>
    intro iq oq ho
    have hiq : iq < 13 := by have := (Array.getElem?_eq_some_iff.1 ho).1; simpa using this
    match iq, hiq with
    | 0, _ | 1, _ | 2, _ | 3, _ | 4, _ | 5, _ | 6, _ | 7, _ | 8, _ | 9, _ | 10, _ | 11, _ | 12, _ => injection ho with ho; subst ho; simp [Region.binds]
  case dd =>
    intro k hk
    have hk' : k < 28 := by
      simp [Lt.D] at hk
      omega
    simpa using hk'
  case does =>
    intro iq oq ho
    have hiq : iq < 13 := by have := (Array.getElem?_eq_some_iff.1 ho).1; simpa using this
    match iq, hiq with
    | 0, _ => injection ho with ho; subst ho; exact Lt.Does.read rfl (fun Lq aq w' hI hq => Lt.wn0 rfl) (fun Lq aq w' hI hq => Lt.ex_load_row rfl (hI.fix 3 (Lt.notD rfl)) (by obtain ⟨-, -, y0, y1, y2, y3, y4, y5⟩ := K.out w' hI.world; exact rng y0 y1 y2 y3 y4 y5) (by kernel_rfl) (by kernel_rfl))
    | 1, _ => injection ho with ho; subst ho; exact Lt.Does.read rfl (fun Lq aq w' hI hq => Lt.wn0 rfl) (fun Lq aq w' hI hq => Lt.ex_move rfl (hI.fix 1 (Lt.notD rfl)))
    | 2, _ => injection ho with ho; subst ho; exact Lt.Does.read rfl (fun Lq aq w' hI hq => Lt.wn0 rfl) (fun Lq aq w' hI hq => Lt.ex_field rfl (hI.fix 3 (Lt.notD rfl)) (by simp [go_sem]))
    | 3, _ => injection ho with ho; subst ho; exact Lt.Does.read rfl (fun Lq aq w' hI hq => Lt.wn0 rfl) (fun Lq aq w' hI hq => Lt.ex_load rfl (hI.pure 2 _ _ rfl (hq ⟨2, .data⟩ (by simp) rfl)) (by simp [go_sem]) (by obtain ⟨-, -, y0, y1, y2, y3, y4, y5⟩ := K.out w' hI.world; exact y2))
    | 4, _ => injection ho with ho; subst ho; exact Lt.Does.call rfl (fun Lq aq w' hI hq => Lt.wn0 rfl) (fun Lq aq w' hI hq => Lt.call2 rfl (hI.pure 1 _ _ rfl (hq ⟨1, .data⟩ (by simp) rfl)) (hI.pure 3 _ _ rfl (hq ⟨3, .data⟩ (by simp) rfl)) rfl (by simp [go_sem])) (fun w1 hw1 => (T1.out w1).mono (by rintro e w2 ⟨rfl, hw2⟩; obtain rfl := hw2.symm; exact ⟨rfl, hw1⟩))
    | 5, _ => injection ho with ho; subst ho; exact Lt.Does.read rfl (fun Lq aq w' hI hq => Lt.wn0 rfl) (fun Lq aq w' hI hq => Lt.ex_move rfl (hI.pure 4 _ _ rfl (hq ⟨4, .data⟩ (by simp) rfl)))
    | 6, _ => injection ho with ho; subst ho; exact .skip rfl (fun Lq aq w' hI hq => Lt.wnG (d := 14) (c := false) rfl rfl (hI.pure 5 _ _ rfl (hq ⟨5, .guard⟩ (by simp) rfl)) rfl) rfl
    | 7, _ => injection ho with ho; subst ho; exact .skip rfl (fun Lq aq w' hI hq => Lt.wnG (d := 14) (c := false) rfl rfl (hI.pure 5 _ _ rfl (hq ⟨5, .guard⟩ (by simp) rfl)) rfl) rfl
    | 8, _ => injection ho with ho; subst ho; exact .skip rfl (fun Lq aq w' hI hq => Lt.wnG (d := 14) (c := false) rfl rfl (hI.pure 5 _ _ rfl (hq ⟨5, .guard⟩ (by simp) rfl)) rfl) rfl
    | 9, _ => injection ho with ho; subst ho; exact .skip rfl (fun Lq aq w' hI hq => Lt.wnG (d := 14) (c := false) rfl rfl (hI.pure 5 _ _ rfl (hq ⟨5, .guard⟩ (by simp) rfl)) rfl) rfl
    | 10, _ => injection ho with ho; subst ho; exact Lt.Does.read rfl (fun Lq aq w' hI hq => Lt.wn0 rfl) (fun Lq aq w' hI hq => Lt.ex_pick (b := false) rfl (hI.pure 5 _ _ rfl (hq ⟨5, .data⟩ (by simp) rfl)) (by first | exact rfl | simpa using rfl))
    | 11, _ => injection ho with ho; subst ho; exact Lt.Does.call rfl (fun Lq aq w' hI hq => Lt.wn0 rfl) (fun Lq aq w' hI hq => Lt.call2 rfl (hI.pure 0 _ _ rfl (hq ⟨0, .data⟩ (by simp) rfl)) (hI.pure 10 _ _ rfl (hq ⟨10, .data⟩ (by simp) rfl)) rfl (by simp [go_sem])) (fun w1 hw1 => (cw_arg HH.out w1).mono (by rintro e w2 ⟨rfl, hb⟩; exact ⟨rfl, hw1.trans (hb.mono hw1.size)⟩))
    | 12, _ => injection ho with ho; subst ho; exact Lt.Does.read rfl (fun Lq aq w' hI hq => Lt.wn0 rfl) (fun Lq aq w' hI hq => Lt.ex_assign rfl (hI.pure 11 _ _ rfl (hq ⟨11, .data⟩ (by simp) rfl)))
  case fin =>
    intro Lq a' w' hI hall
    have hw := hI.world
    obtain rfl : a' = ⟨#[.agg #[.int .i64 s0, .int .i64 s1, .int .i64 s2, .int .i64 s3, .int .i64 s4, .int .i64 s5], .int .i64 a, .int .i64 b, .pointer (some ⟨w.heap.size, 0, none⟩), undef, undef, .int .i64 0, .int .i64 0, .int .i64 2, .agg #[.int .i64 s0, .int .i64 s1, .int .i64 s2, .int .i64 s3, .int .i64 s4, .int .i64 s5], .int .i64 a, .pointer (some ⟨w.heap.size, 2, none⟩), .int .i64 s2, .bool false, .bool false, undef, undef, undef, undef, .bool false, .int .i64 2, undef, undef, undef, undef, undef, undef, undef], []⟩ := Lt.act_eq a' [.agg #[.int .i64 s0, .int .i64 s1, .int .i64 s2, .int .i64 s3, .int .i64 s4, .int .i64 s5], .int .i64 a, .int .i64 b, .pointer (some ⟨w.heap.size, 0, none⟩), undef, undef, .int .i64 0, .int .i64 0, .int .i64 2, .agg #[.int .i64 s0, .int .i64 s1, .int .i64 s2, .int .i64 s3, .int .i64 s4, .int .i64 s5], .int .i64 a, .pointer (some ⟨w.heap.size, 2, none⟩), .int .i64 s2, .bool false, .bool false, undef, undef, undef, undef, .bool false, .int .i64 2, undef, undef, undef, undef, undef, undef, undef] hI.df (by rw [hI.sz]; rfl) (fun k hk => by
      have hk' : k < 28 := hk
      match k, hk' with
      | 0, _ => exact hI.fix 0 (Lt.notD rfl)
      | 1, _ => exact hI.fix 1 (Lt.notD rfl)
      | 2, _ => exact hI.fix 2 (Lt.notD rfl)
      | 3, _ => exact hI.fix 3 (Lt.notD rfl)
      | 4, _ => exact hI.fix 4 (Lt.notD rfl)
      | 5, _ => exact hI.fix 5 (Lt.notD rfl)
      | 6, _ => exact hI.fix 6 (Lt.notD rfl)
      | 7, _ => exact hI.fix 7 (Lt.notD rfl)
      | 8, _ => exact hI.pure 12 8 _ rfl (hall 12 (by decide))
      | 9, _ => exact hI.pure 0 9 _ rfl (hall 0 (by decide))
      | 10, _ => exact hI.pure 1 10 _ rfl (hall 1 (by decide))
      | 11, _ => exact hI.pure 2 11 _ rfl (hall 2 (by decide))
      | 12, _ => exact hI.pure 3 12 _ rfl (hall 3 (by decide))
      | 13, _ => exact hI.pure 4 13 _ rfl (hall 4 (by decide))
      | 14, _ => exact hI.pure 5 14 _ rfl (hall 5 (by decide))
      | 15, _ => exact hI.pure 6 15 _ rfl (hall 6 (by decide))
      | 16, _ => exact hI.pure 7 16 _ rfl (hall 7 (by decide))
      | 17, _ => exact hI.pure 8 17 _ rfl (hall 8 (by decide))
      | 18, _ => exact hI.pure 9 18 _ rfl (hall 9 (by decide))
      | 19, _ => exact hI.pure 10 19 _ rfl (hall 10 (by decide))
      | 20, _ => exact hI.pure 11 20 _ rfl (hall 11 (by decide))
      | 21, _ => exact hI.fix 21 (Lt.notD rfl)
      | 22, _ => exact hI.fix 22 (Lt.notD rfl)
      | 23, _ => exact hI.fix 23 (Lt.notD rfl)
      | 24, _ => exact hI.fix 24 (Lt.notD rfl)
      | 25, _ => exact hI.fix 25 (Lt.notD rfl)
      | 26, _ => exact hI.fix 26 (Lt.notD rfl)
      | 27, _ => exact hI.fix 27 (Lt.notD rfl)
      | q + 28, hq => exact absurd hq (by omega))
    rename_i K2 hK2
    refine hK2 _ _ ?_
    go_wp2_with fail
    go_ret2
    exact ⟨rfl, (K.out _ hw).1⟩
theorem root_arg2 {s0 s1 s2 s3 s4 s5 : Int} {a b : Int} (H : R5 s0 s1 s2 s3 s4) (ha : 0 ≤ a ∧ a < s2) (hb : ¬ (0 ≤ b ∧ b < s3)) (w : World) : Calls Tryz.prog 82 #[.agg #[.int .i64 s0, .int .i64 s1, .int .i64 s2, .int .i64 s3, .int .i64 s4, .int .i64 s5], .int .i64 a, .int .i64 b] w fun e w' => e = .returned (.tuple #[.int .i64 0, .int .i64 2]) ∧ Below w.heap.size w w' := by
  have HH := hide H
  have T1 := hide (fun w1 : World => isn_t ha.1 ha.2 w1)
  have T2 := hide (fun w1 : World => isn_f hb w1)
  clear H ha hb
  obtain ⟨W0, hW0, B0, K⟩ := box w s0 s1 s2 s3 s4 s5
  have HB := hide B0
  obtain ⟨-, l0, x0, x1, x2, x3, x4, x5⟩ := K.out W0 (Below.refl _ _)
  clear B0
  go_enter Tryz.func82, Tryz.ntmps82
  go_wp2_with fail
  go_region_held (fun w' => w'.cell? ⟨w.heap.size, 0, none⟩ = some (.int .i64 s0) ∧ w'.cell? ⟨w.heap.size, 1, none⟩ = some (.int .i64 s1) ∧ w'.cell? ⟨w.heap.size, 2, none⟩ = some (.int .i64 s2) ∧ w'.cell? ⟨w.heap.size, 3, none⟩ = some (.int .i64 s3) ∧ w'.cell? ⟨w.heap.size, 4, none⟩ = some (.int .i64 s4) ∧ w'.cell? ⟨w.heap.size, 5, none⟩ = some (.int .i64 s5)) (go_keep) (first | (go_at_call 97; first | (have hz := GU.out; clear hz; refine (T2.out _).mono ?_; rintro e wq ⟨rfl, hwq⟩; obtain rfl := hwq.symm) | (refine (T1.out _).mono ?_; rintro e wq ⟨rfl, hwq⟩; obtain rfl := hwq.symm; have GU := hide True.intro)) | (go_at_call 96; refine (cw_arg HH.out _).mono ?_; rintro e w1 ⟨rfl, hb1⟩; have HB1 := hide (show Below W0.heap.size W0 w1 from ⟨hb1.os, hb1.tape, hb1.output, hb1.size, hb1.block⟩); clear hb1; obtain ⟨-, m1, y10, y11, y12, y13, y14, y15⟩ := K.out w1 HB1.out))
  all_goals go_wp2_with fail
  all_goals go_ret2
  all_goals exact ⟨rfl, (K.out _ HB1.out).1⟩
theorem root_ok {o s h r k : Nat} {s5 : Int} {a b p : Nat} (H : (⟨o, s, h, r, k⟩ : Sh).Ok) (hp : a * r = p) (hp2 : p ≤ 56) (ha : a < h) (hb : b < r) (w : World) : Calls Tryz.prog 82 #[.agg #[.int .i64 (o : Int), .int .i64 (s : Int), .int .i64 (h : Int), .int .i64 (r : Int), .int .i64 (k : Int), .int .i64 s5], .int .i64 (a : Int), .int .i64 (b : Int)] w fun e w' => e = .returned (.tuple #[.int .i64 (8 + (h : Int) + (p : Int) + (b : Int)), .int .i64 0]) ∧ Below w.heap.size w w' := by
  have HH := hide (r5 H)
  obtain ⟨b1, b2, b3, b4, b5, b6, b7, b8, b9, b10⟩ := bnds H
  have T1 := hide (fun w1 : World => isn_t (n := (a : Int)) (c := (h : Int)) (by omega) (by omega) w1)
  have T2 := hide (fun w1 : World => isn_t (n := (b : Int)) (c := (r : Int)) (by omega) (by omega) w1)
  have RA := hide (fun w1 => rootAt_any (o := o) (s := s) (h := h) (r := r) (k := k) (s5 := s5) (i := a) (j := b) b3 (by omega) hp hp2 w1)
  clear hp
  clear H b7
  obtain ⟨W0, hW0, B0, K⟩ := box w (o : Int) (s : Int) (h : Int) (r : Int) (k : Int) s5
  have HB := hide B0
  obtain ⟨-, l0, x0, x1, x2, x3, x4, x5⟩ := K.out W0 (Below.refl _ _)
  clear B0
  go_enter Tryz.func82, Tryz.ntmps82
  go_wp2_with fail
  go_region_held (fun w' => w'.cell? ⟨w.heap.size, 0, none⟩ = some (.int .i64 (o : Int)) ∧ w'.cell? ⟨w.heap.size, 1, none⟩ = some (.int .i64 (s : Int)) ∧ w'.cell? ⟨w.heap.size, 2, none⟩ = some (.int .i64 (h : Int)) ∧ w'.cell? ⟨w.heap.size, 3, none⟩ = some (.int .i64 (r : Int)) ∧ w'.cell? ⟨w.heap.size, 4, none⟩ = some (.int .i64 (k : Int)) ∧ w'.cell? ⟨w.heap.size, 5, none⟩ = some (.int .i64 s5)) (go_keep) (first | (go_at_call 97; first | (have hz := GU.out; clear hz; refine (T2.out _).mono ?_; rintro e wq ⟨rfl, hwq⟩; obtain rfl := hwq.symm) | (refine (T1.out _).mono ?_; rintro e wq ⟨rfl, hwq⟩; obtain rfl := hwq.symm; have GU := hide True.intro)) | (go_at_call 96; refine (cw_ok HH.out _).mono ?_; rintro e w1 ⟨rfl, hb1⟩; have HB1 := hide (show Below W0.heap.size W0 w1 from ⟨hb1.os, hb1.tape, hb1.output, hb1.size, hb1.block⟩); clear hb1; obtain ⟨-, m1, y10, y11, y12, y13, y14, y15⟩ := K.out w1 HB1.out))
  all_goals go_wp2_with (go_at_call 89; refine (RA.out _).mono ?_; rintro e w2 ⟨rfl, hb2⟩; have HB2 := hide (HB1.out.trans (hb2.mono HB1.out.size)); clear hb2)
  all_goals go_ret2
  all_goals exact ⟨rfl, (K.out _ HB2.out).1⟩

end Shape
end Go.Proofs.YtecjegjnnahddaaGreat

/-
  Shape: Fresh, the package's and the document's.
-/
namespace Go.Proofs.YtecjegjnnahddaaGreat
open Go.RowKit
set_option linter.unusedVariables false
set_option linter.unusedSimpArgs false
set_option linter.unnecessarySimpa false
set_option maxRecDepth 20000
namespace Shape
/-- The words of a fresh memory, behind m links. -/
def F (x : Sh) : Nat → Nat → Int
  | 0 => putF (fun _ => 0) 1 1
  | m + 1 => putF (F x m) (bO x + m * ow x + 1) ((m : Int) + 2)
theorem F_free {x : Sh} (hx : 8 ≤ bO x) : ∀ m, F x m 1 = 1
  | 0 => by simp [F, putF]
  | m + 1 => by
    unfold F putF
    rw [if_neg (by omega)]
    exact F_free hx m
theorem bO8 (x : Sh) : 8 ≤ bO x := by unfold bO bK bR; omega
theorem ow3 (x : Sh) : 3 ≤ ow x := by unfold ow; omega
theorem at_lt {x : Sh} {i j : Nat} (h : i < j) : i * ow x + 3 ≤ j * ow x := by
  have : (i + 1) * ow x ≤ j * ow x := Nat.mul_le_mul_right _ h
  rw [Nat.add_mul] at this
  have := ow3 x
  omega
theorem F_link {x : Sh} : ∀ m i, F x m (bO x + i * ow x + 1) = if i < m then (i : Int) + 2 else 0
  | 0, i => by
    have := bO8 x
    unfold F putF
    rw [if_neg (by omega), if_neg (by omega)]
  | m + 1, i => by
    unfold F putF
    by_cases e : i = m
    · subst e; rw [if_pos rfl, if_pos (by omega)]
    · rw [if_neg ?_, F_link m i]
      · by_cases h : i < m
        · rw [if_pos h, if_pos (by omega)]
        · rw [if_neg h, if_neg (by omega)]
      · intro h
        rcases Nat.lt_or_gt_of_ne e with l | l
        · have := at_lt (x := x) l; omega
        · have := at_lt (x := x) l; omega

theorem run_make_z {P : Program} (t e : TypeId) (zc : Array Value) (size bytes : Nat) (ht : P.underlying t = some (.slice e)) (hinfo : (P.info? e).map (fun i => (i.zero.map Value.cells, i.size, i.bytes)) = some (some zc, size, bytes))
    (n : Nat) (hbytes : bytes * n ≤ 281474976710656) (h63 : n ≤ 9223372036854775807) (w : World) :
    (Instr.makeSlice t (.int .i64 (n : Int)) (.int .i64 (n : Int))).run P w = .ok (.slice (some ⟨w.heap.size, 0, none⟩) n n) (w.alloc (.cells (madeCells zc (n * size)) e)) := by
  obtain ⟨i, hi, hzz⟩ := Option.map_eq_some_iff.1 hinfo
  simp only [Prod.mk.injEq] at hzz
  obtain ⟨hz, hs, hb⟩ := hzz
  obtain ⟨z, hz, hzc⟩ := Option.map_eq_some_iff.1 hz
  have hbi : (i.bytes : Int) * (n : Int) ≤ 281474976710656 := by
    rw [hb]
    have h : ((bytes * n : Nat) : Int) ≤ 281474976710656 := by omega
    rwa [Int.natCast_mul] at h
  have hr := run_make (P := P) w t e i z ht hi hz .i64 .i64 n n (by omega) (Int.le_refl _) hbi (by omega)
  simpa [hs, hzc] using hr
theorem tagged_one (w : World) : Calls Tryz.prog 26 #[.int .i64 1, .int .u64 0] w fun e w' => e = .returned (.int .u64 1) ∧ w' = w := by
  go_enter Tryz.func26, Tryz.ntmps26
  go_wp2
  go_ret
  exact ⟨by rfl, rfl⟩
theorem mk_row (w : World) (n : Nat) (hn : n ≤ 600) : IsRow (w.alloc (.cells (madeCells #[.int .u64 0] n) 24)) w.heap.size n n (fun _ => 0) := by
  refine ⟨Nat.le_refl _, by unfold maxLen; omega, ⟨fun _ => .int .u64 0, ?_, fun _ _ => rfl⟩, fun _ _ => ⟨Int.le_refl 0, by show (0 : Int) ≤ 18446744073709551615; decide⟩⟩
  exact World.rowIs_made w (.int .u64 0) n 24

theorem fresh_bad {s0 s1 s2 s3 s4 s5 : Int} (H : ¬ R5 s0 s1 s2 s3 s4) (w : World) : Calls Tryz.prog 10 #[.agg #[.int .i64 s0, .int .i64 s1, .int .i64 s2, .int .i64 s3, .int .i64 s4, .int .i64 s5]] w fun e w' => e = .returned (.tuple #[.slice none 0 0, .int .i64 120]) ∧ Below w.heap.size w w' := by
  have HH := hide H
  clear H
  obtain ⟨W0, hW0, B0, K⟩ := box w s0 s1 s2 s3 s4 s5
  have HB := hide B0
  obtain ⟨-, l0, x0, x1, x2, x3, x4, x5⟩ := K.out W0 (Below.refl _ _)
  clear B0
  go_enter Tryz.func10, Tryz.ntmps10
  go_wp2_with (go_at_call 21; refine (size_bad HH.out _).mono ?_; rintro e w1 ⟨rfl, hb1⟩; have HB1 := hide hb1; clear hb1; obtain ⟨-, m1, y0, y1, y2, y3, y4, y5⟩ := K.out w1 HB1.out)
  go_ret2
  exact ⟨rfl, (K.out _ HB1.out).1⟩

set_option maxHeartbeats 4000000 in
theorem fresh_ok {o s h r k : Nat} {s5 : Int} (H : (⟨o, s, h, r, k⟩ : Sh).Ok) (w : World) : Calls Tryz.prog 10 #[.agg #[.int .i64 (o : Int), .int .i64 (s : Int), .int .i64 (h : Int), .int .i64 (r : Int), .int .i64 (k : Int), .int .i64 s5]] w fun e w' => ∃ g, e = .returned (.tuple #[.slice (some ⟨g, 0, none⟩) (size ⟨o, s, h, r, k⟩) (size ⟨o, s, h, r, k⟩), .int .i64 0]) ∧ IsRow w' g (size ⟨o, s, h, r, k⟩) (size ⟨o, s, h, r, k⟩) (F ⟨o, s, h, r, k⟩ (o - 1)) ∧ w.heap.size ≤ g ∧ Below w.heap.size w w' := by
  obtain ⟨b1, b2, b3, b4, b5, b6, b7, b8, b9, b10⟩ := bnds H
  have SZ := hide (fun w1 => size_ok (s5 := s5) H w1)
  have z600 := (sizes H).2.2.2.2
  obtain ⟨z, hz⟩ : ∃ z, size ⟨o, s, h, r, k⟩ = z := ⟨_, rfl⟩
  have ATZ := hide (show ∀ m, m + 1 < o → bO ⟨o, s, h, r, k⟩ + m * ow ⟨o, s, h, r, k⟩ + 1 < z from fun m hm => by
    have := at_lt (x := ⟨o, s, h, r, k⟩) (show m < o by omega)
    rw [← hz]; unfold size; simp only; omega)
  have hz8 : 8 < z := by rw [← hz]; have := bO8 ⟨o, s, h, r, k⟩; have := (sizes H).2.2.2.1; unfold size; omega
  have HOK := hide H
  rw [hz] at SZ z600
  rw [hz]
  have hmk := run_make_z (P := Tryz.prog) 25 24 _ 1 8 Tryz.underlying25 info46 z (by omega) (by omega)
  simp only [Nat.mul_one] at hmk
  have OA := hide (fun (m : Nat) (hm : m + 1 < o) (w1 : World) => show Calls Tryz.prog 27 #[.agg #[.int .i64 (o : Int), .int .i64 (s : Int), .int .i64 (h : Int), .int .i64 (r : Int), .int .i64 (k : Int), .int .i64 s5], .int .i64 ((m : Int) + 1)] w1 fun e w' => e = .returned (.int .i64 ((bO ⟨o, s, h, r, k⟩ + m * ow ⟨o, s, h, r, k⟩ : Nat) : Int)) ∧ Below w1.heap.size w1 w' from by
    have hq : m * (3 + s) ≤ 448 := Nat.le_trans (Nat.mul_le_mul_right _ (by omega)) b7
    have := objectAt_any (o := o) (s := s) (h := h) (r := r) (k := k) (s5 := s5) (i := m + 1) (q := m * (3 + s)) b3 b2 b5 rfl b6 (by omega) (by omega) (by simp) hq w1
    rw [show ((bO ⟨o, s, h, r, k⟩ + m * ow ⟨o, s, h, r, k⟩ : Nat) : Int) = 8 + (h : Int) + ((h * r : Nat) : Int) + (k : Int) + ((m * (3 + s) : Nat) : Int) from by simp only [bO, bK, bR, ow]; omega]
    rw [show ((m : Int) + 1) = ((m + 1 : Nat) : Int) by omega]; exact this)
  clear H hz b6 b7
  obtain ⟨W0, hW0, B0, K⟩ := box w (o : Int) (s : Int) (h : Int) (r : Int) (k : Int) s5
  have HB := hide B0
  obtain ⟨-, l0, x0, x1, x2, x3, x4, x5⟩ := K.out W0 (Below.refl _ _)
  clear B0
  go_enter Tryz.func10, Tryz.ntmps10
  go_wp2_with (first | (go_at_call 21; refine (SZ.out _).mono ?_; rintro e w1 ⟨rfl, hb1⟩; have HB1 := hide hb1; clear hb1; obtain ⟨-, m1, y0, y1, y2, y3, y4, y5⟩ := K.out w1 HB1.out; have R1 := hide (mk_row w1 z z600); have c1 : (w1.alloc (.cells (madeCells #[.int .u64 0] z) 24)).cell? ⟨w1.heap.size, 1, none⟩ = some (.int .u64 0) := R1.out.cell (by omega); have fz1 := R1.out.frozen 1) | (go_at_call 26; refine (tagged_one _).mono ?_; rintro e wq ⟨rfl, hwq⟩; obtain rfl := hwq.symm))
  go_loopw [7] (fun v wr => ∃ m : Nat, m + 1 ≤ o ∧ v = .int .i64 ((m + 1 : Nat) : Int) ∧ Hid (IsRow wr w1.heap.size z z (F ⟨o, s, h, r, k⟩ m)) ∧ Hid (Below w1.heap.size w1 wr)) (fun v _ => o - (intOf v).toNat)
  case atStart =>
    have e0 := R1.out.set 1 1 ⟨by decide, by decide⟩
    have e1 : (w1.alloc (.cells (madeCells #[.int .u64 0] z) 24)).setCell ⟨w1.heap.size, 1, none⟩ (.int .u64 1) = w1.alloc (.cells ((madeCells #[.int .u64 0] z).setIfInBounds 1 (.int .u64 1)) 24) := World.setCell_alloc_at _ _ _ _ _ rfl
    rw [e1] at e0
    exact ⟨0, by omega, rfl, e0, (Below.refl _ w1).alloc (Nat.le_refl _) _⟩
  case round =>
    obtain ⟨m, hm, rfl, HR, HW⟩ := hrel
    have HBr := hide (HB1.out.trans (HW.out.mono HB1.out.size))
    obtain ⟨-, n1, u0, u1, u2, u3, u4, u5⟩ := K.out wr HBr.out
    have eo : ((m + 1 : Nat) : Int) = (m : Int) + 1 := by omega
    rw [eo]
    by_cases hlt : m + 1 < o
    · have hlt' : (m : Int) + 1 < (o : Int) := by omega
      have hat := ATZ.out m hlt
      have OB := hide (fun w2 => OA.out m hlt w2)
      obtain ⟨p, hp⟩ : ∃ p, bO ⟨o, s, h, r, k⟩ + m * ow ⟨o, s, h, r, k⟩ = p := ⟨_, rfl⟩
      rw [hp] at OB hat
      have hat' : (p : Int) + 1 < (z : Int) := by omega
      have wu : IntKind.u64.wrap ((m : Int) + 1 + 1) = (m : Int) + 2 := by rw [IntKind.wrap_u64]; omega
      have wu2 : IntKind.u64.wrap ((m : Int) + 2) = (m : Int) + 2 := by rw [IntKind.wrap_u64]; omega
      clear y0 y1 y2 y3 y4 y5 c1 fz1 hmk
      go_wp2_with (go_at_call 27; refine (OB.out _).mono ?_; rintro e w2 ⟨rfl, hb2⟩; have HB2 := hide hb2; have R2 := hide (HR.out.below hb2); have c2 : w2.cell? ⟨w1.heap.size, p + 1, none⟩ = some (.int .u64 (F ⟨o, s, h, r, k⟩ m (p + 1))) := R2.out.cell (by omega); have fz2 := R2.out.frozen (p + 1); have lg := R2.out.lt; clear hb2)
      go_roundw
      case rel =>
        refine ⟨m + 1, by omega, by go_num, ?_, ?_⟩
        · have e : F ⟨o, s, h, r, k⟩ (m + 1) = putF (F ⟨o, s, h, r, k⟩ m) (p + 1) ((m : Int) + 2) := by rw [← hp]; rfl
          rw [e]
          exact R2.out.set (p + 1) ((m : Int) + 2) ⟨by omega, by omega⟩
        · exact (HW.out.trans (HB2.out.mono HW.out.size)).setCell (Nat.le_refl _) _
      case measure => simp [intOf]; omega
    · have hlt' : ¬ ((m : Int) + 1 < (o : Int)) := by omega
      have em : m = o - 1 := by omega
      clear y0 y1 y2 y3 y4 y5 c1 fz1 hmk
      go_wp2_with fail
      go_ret2
      exact ⟨w1.heap.size, rfl, by rw [← em]; exact HR.out, (K.out _ HB1.out).1.size, (K.out _ HBr.out).1⟩

end Shape
end Go.Proofs.YtecjegjnnahddaaGreat

/-
  View: copied, the package's and the document's; the parts of a memory.
-/
namespace Go.Proofs.YtecjegjnnahddaaGreat
open Go.RowKit
set_option linter.unusedVariables false
set_option linter.unusedSimpArgs false
set_option linter.unnecessarySimpa false
set_option maxRecDepth 20000
namespace Vw
open Shape

theorem splice_all {α : Type} (L cs : List α) (h : L.length = cs.length) : splice L 0 cs = cs := by
  simp [splice, ← h]
theorem made_list (n : Nat) : ∃ L : List Value, L.length = n ∧ madeCells #[.int .u64 0] n = L.toArray := ⟨(madeCells #[.int .u64 0] n).toList, by simp [madeCells], by simp⟩
/-- Words copied over a row of one's own, from its beginning on. -/
theorem copy_run {W : World} {g : Nat} {L : List Value} {t : TypeId} {ao : Option Addr} {n m c cap : Nat} {f : Nat → Int} (hg : W.heap[g]? = some (.cells L.toArray t (0, 0))) (h : Sees W W.heap.size ao n f) (off : Nat) (hL : off + n ≤ L.length) (hm : n = m) :
    ∃ W', (Builtin.copy_ #[25, 25] 3 #[.slice (some ⟨g, off, none⟩) m c, .slice ao n cap]).run Tryz.prog W = .ok (goInt n) W' ∧ Hid (W'.heap[g]? = some (.cells (splice L off (wcs n f)).toArray t (0, 0))) ∧ (∀ B, B ≤ g → Below B W W') ∧ ∀ k, ¬ k = g → W'.heap[k]? = W.heap[k]? := by
  subst hm
  by_cases h0 : n = 0
  · subst h0
    refine ⟨W, run_copy_none (P := Tryz.prog) W 25 25 3 24 (some ⟨g, off, none⟩) ao 0 c 0 cap Tryz.underlying25 (by kernel_rfl) (by simp), show _ = _ by simpa [splice, wcs] using hg, fun B _ => Below.refl _ _, fun _ _ => rfl⟩
  · obtain ⟨b, o', rfl, hb, hc⟩ := h 0 (by omega)
    have hr := run_copy_row (P := Tryz.prog) W 25 25 3 24 g off n c ⟨b, o', none⟩ n cap L.toArray t (wcs n f) Tryz.underlying25 (by kernel_rfl) hg (by rw [wcs_len]; simp) (news_of h _ rfl) (by rw [wcs_len]; simpa using hL) (wcs_one n f)
    rw [wcs_len] at hr
    refine ⟨_, hr, ?_, fun B hB => below_setRow (Below.refl _ _) hB _, fun k hk => setRow_other W g k _ hk⟩
    have := setRow_heap W g L.toArray ((L.take off ++ wcs n f ++ L.drop (off + n)).toArray) t (0, 0) hg
    show _ = _
    simpa [splice, wcs_len] using this

set_option maxHeartbeats 1000000 in
theorem copied_v {w : World} {B : Nat} {ao : Option Addr} {n cap : Nat} {f : Nat → Int} (h : Sees w B ao n f) (hB : B ≤ w.heap.size) (hn : n ≤ 70000) :
    Calls Tryz.prog 60 #[.slice ao n cap] w fun e w' => ∃ g, e = .returned (.slice (some ⟨g, 0, none⟩) n n) ∧ Hid (w'.ownsRow w.heap.size 24 1 (.slice (some ⟨g, 0, none⟩) n n) n (wcs n f)) ∧ Below w.heap.size w w' := by
  have H := hide h
  clear h
  have hmk := run_make_z (P := Tryz.prog) 25 24 _ 1 8 Tryz.underlying25 info46 n (by omega) (by omega)
  simp only [Nat.mul_one] at hmk
  obtain ⟨L, hL, eL⟩ := made_list n
  simp only [eL] at hmk
  obtain ⟨W, hW⟩ : ∃ W, w.alloc (.cells L.toArray 24) = W := ⟨_, rfl⟩
  have hG : W.heap[w.heap.size]? = some (.cells L.toArray 24 (0, 0)) := by rw [← hW]; exact heap_alloc_new w _
  have hBl : Below w.heap.size w W := by rw [← hW]; exact (Below.refl _ w).alloc (Nat.le_refl _) _
  have hS : Sees W W.heap.size ao n f := by
    have := hBl.size
    exact (H.out.below hBl hB).mono (by omega)
  obtain ⟨W2, hcp, HG2, hB2, -⟩ := copy_run (m := n) (c := n) (cap := cap) hG hS 0 (by omega) rfl
  have HB2 := hide (hBl.trans ((hB2 w.heap.size (Nat.le_refl _))))
  have HL := hide hL
  clear hG hS hB2 hL eL hBl
  go_enter Tryz.func60, Tryz.ntmps60
  go_wp2
  go_ret
  refine ⟨w.heap.size, rfl, ?_, HB2.out⟩
  refine ⟨by simp [wcs], .inr ⟨w.heap.size, n, (wcs n f).toArray, rfl, Nat.le_refl _, ?_, Nat.le_refl _, by unfold maxLen; omega, by simp [wcs], by rw [Nat.mul_one]; exact List.take_of_length_le (by simp [wcs])⟩⟩
  have := HG2.out
  rw [splice_all L (wcs n f) (by rw [HL.out, wcs_len])] at this
  exact this
/-- A memory's value in a box. -/
theorem mbox (w : World) (o s h r k b off z cap : Nat) (s5 : Int) : ∃ W0, w.alloc (.cells #[.int .i64 (o : Int), .int .i64 (s : Int), .int .i64 (h : Int), .int .i64 (r : Int), .int .i64 (k : Int), .int .i64 s5, .slice (some ⟨b, off, none⟩) z cap] 59) = W0 ∧ Below w.heap.size w W0 ∧ Hid (∀ w' : World, Below W0.heap.size W0 w' → Below w.heap.size w w' ∧ w.heap.size < w'.heap.size ∧ w'.cell? ⟨w.heap.size, 0, none⟩ = some (.int .i64 (o : Int)) ∧ w'.cell? ⟨w.heap.size, 1, none⟩ = some (.int .i64 (s : Int)) ∧ w'.cell? ⟨w.heap.size, 2, none⟩ = some (.int .i64 (h : Int)) ∧ w'.cell? ⟨w.heap.size, 3, none⟩ = some (.int .i64 (r : Int)) ∧ w'.cell? ⟨w.heap.size, 4, none⟩ = some (.int .i64 (k : Int)) ∧ w'.cell? ⟨w.heap.size, 5, none⟩ = some (.int .i64 s5) ∧ w'.cell? ⟨w.heap.size, 6, none⟩ = some (.slice (some ⟨b, off, none⟩) z cap)) := by
  refine ⟨_, rfl, (Below.refl _ w).alloc (Nat.le_refl _) _, fun w' hb => ?_⟩
  have B0 : Below w.heap.size w (w.alloc (.cells #[.int .i64 (o : Int), .int .i64 (s : Int), .int .i64 (h : Int), .int .i64 (r : Int), .int .i64 (k : Int), .int .i64 s5, .slice (some ⟨b, off, none⟩) z cap] 59)) := (Below.refl _ w).alloc (Nat.le_refl _) _
  have R0 : (w.alloc (.cells #[.int .i64 (o : Int), .int .i64 (s : Int), .int .i64 (h : Int), .int .i64 (r : Int), .int .i64 (k : Int), .int .i64 s5, .slice (some ⟨b, off, none⟩) z cap] 59)).rowIs w.heap.size 59 7 (lrow [.int .i64 (o : Int), .int .i64 (s : Int), .int .i64 (h : Int), .int .i64 (r : Int), .int .i64 (k : Int), .int .i64 s5, .slice (some ⟨b, off, none⟩) z cap]) := rowL_alloc w [.int .i64 (o : Int), .int .i64 (s : Int), .int .i64 (h : Int), .int .i64 (r : Int), .int .i64 (k : Int), .int .i64 s5, .slice (some ⟨b, off, none⟩) z cap] _ rfl
  have q := R0.of_block (hb.block w.heap.size R0.lt)
  exact ⟨B0.trans (hb.mono B0.size), q.lt, q.cell (i := 0) (by decide), q.cell (i := 1) (by decide), q.cell (i := 2) (by decide), q.cell (i := 3) (by decide), q.cell (i := 4) (by decide), q.cell (i := 5) (by decide), q.cell (i := 6) (by decide)⟩

theorem slice_run {b off z cap : Nat} (at' n : Nat) (hz : at' + n ≤ cap) : ∃ p, (∀ w, (Instr.slice 25 (.slice (some ⟨b, off, none⟩) z cap) (some (.int .i64 (at' : Int))) (some (.int .i64 ((at' : Int) + (n : Int)))) none).run Tryz.prog w = .ok (.slice (some p) n (cap - at')) w) ∧ (0 < n → p = ⟨b, off + at', none⟩) := by
  refine ⟨if cap = at' then ⟨b, off, none⟩ else ⟨b, off + at', none⟩, fun w => ?_, fun h => by rw [if_neg (by omega)]⟩
  have hs : (sizeOf (Tryz.prog.elem 25)).run Tryz.prog w = .ok 1 w := by kernel_rfl
  rw [run_slice_lh w 25 (some ⟨b, off, none⟩) z cap (by kernel_rfl) .i64 .i64 _ _ (by omega) (by omega) (by omega), hs]
  simp only [Result.andThen, sliced]
  have e1 : ((at' : Int)).toNat = at' := by omega
  have e2 : ((at' : Int) + (n : Int)).toNat = at' + n := by omega
  rw [e1, e2]
  by_cases hc : cap = at'
  · simp [hc]
  · simp [hc]
    rw [Go.WideShapes.add_plain]
theorem slice_from {b off z cap : Nat} (at' : Nat) (hz : at' ≤ z) (hc : z ≤ cap) : ∃ p, (∀ w, (Instr.slice 25 (.slice (some ⟨b, off, none⟩) z cap) (some (.int .i64 (at' : Int))) none none).run Tryz.prog w = .ok (.slice (some p) (z - at') (cap - at')) w) ∧ (0 < z - at' → p = ⟨b, off + at', none⟩) := by
  refine ⟨if cap = at' then ⟨b, off, none⟩ else ⟨b, off + at', none⟩, fun w => ?_, fun h => by rw [if_neg (by omega)]⟩
  have hs : (sizeOf (Tryz.prog.elem 25)).run Tryz.prog w = .ok 1 w := by kernel_rfl
  rw [run_slice_l w 25 (some ⟨b, off, none⟩) z cap (by kernel_rfl) .i64 _ (by omega) (by omega), hs]
  simp only [Result.andThen, sliced]
  have e1 : ((at' : Int)).toNat = at' := by omega
  rw [e1]
  by_cases hc : cap = at'
  · simp [hc]
  · simp [hc]
    rw [Go.WideShapes.add_plain]

set_option maxHeartbeats 1000000 in
theorem part_ok {o s h r k b off z cap : Nat} {s5 : Int} {at' n : Nat} (hz : at' + n ≤ z) (hc : z ≤ cap) (hz2 : z ≤ 600) (w : World) : Calls Tryz.prog 81 #[.agg #[.int .i64 (o : Int), .int .i64 (s : Int), .int .i64 (h : Int), .int .i64 (r : Int), .int .i64 (k : Int), .int .i64 s5, .slice (some ⟨b, off, none⟩) z cap], .int .i64 (at' : Int), .int .i64 (n : Int)] w fun e w' => (∃ p cp, e = .returned (.slice (some p) n cp) ∧ n ≤ cp ∧ (0 < n → p = ⟨b, off + at', none⟩)) ∧ Below w.heap.size w w' := by
  obtain ⟨W0, hW0, B0, K⟩ := mbox w o s h r k b off z cap s5
  have HB := hide B0
  obtain ⟨-, l0, x0, x1, x2, x3, x4, x5, x6⟩ := K.out W0 (Below.refl _ _)
  clear B0
  obtain ⟨p, hsl, hp⟩ := slice_run (b := b) (off := off) (z := z) at' n (show at' + n ≤ cap by omega)
  have HP := hide hp
  have HC := hide (show n ≤ cap - at' by omega)
  clear hp
  go_enter Tryz.func81, Tryz.ntmps81
  go_wp2
  go_ret
  exact ⟨⟨p, _, rfl, HC.out, HP.out⟩, HB.out⟩
set_option maxHeartbeats 1000000 in
theorem counts_ok {o s h r k b off z cap : Nat} {s5 : Int} (hz : 8 ≤ z) (hc : z ≤ cap) (w : World) : Calls Tryz.prog 48 #[.agg #[.int .i64 (o : Int), .int .i64 (s : Int), .int .i64 (h : Int), .int .i64 (r : Int), .int .i64 (k : Int), .int .i64 s5, .slice (some ⟨b, off, none⟩) z cap]] w fun e w' => (∃ p cp, e = .returned (.slice (some p) 4 cp) ∧ 4 ≤ cp ∧ p = ⟨b, off + 4, none⟩) ∧ Below w.heap.size w w' := by
  obtain ⟨W0, hW0, B0, K⟩ := mbox w o s h r k b off z cap s5
  have HB := hide B0
  obtain ⟨-, l0, x0, x1, x2, x3, x4, x5, x6⟩ := K.out W0 (Below.refl _ _)
  clear B0
  obtain ⟨p, hsl, hp⟩ := slice_run (b := b) (off := off) (z := z) 4 4 (show 4 + 4 ≤ cap by omega)
  have HP := hide hp
  have HC := hide (show 4 ≤ cap - 4 by omega)
  clear hp
  simp only [show (((4 : Nat) : Int) + ((4 : Nat) : Int)) = 8 from rfl, show ((4 : Nat) : Int) = 4 from rfl] at hsl
  go_enter Tryz.func48, Tryz.ntmps48
  go_wp2
  go_ret
  exact ⟨⟨_, _, rfl, by omega, rfl⟩, HB.out⟩

/-- What a part of the words shows. -/
theorem part_sees {w w' : World} {B b off z at' n : Nat} {p : Addr} {f : Nat → Int} (h : Sees w B (some ⟨b, off, none⟩) z f) (hb : Below w.heap.size w w') (hB : B ≤ w.heap.size) (hz : at' + n ≤ z) (hp : 0 < n → p = ⟨b, off + at', none⟩) : Sees w' w'.heap.size (some p) n (fun i => f (at' + i)) := by
  have hs := hb.size
  have h2 := (h.below hb hB).mono (show B ≤ w'.heap.size by omega)
  intro j hj
  obtain ⟨b1, off1, e, hl, hc⟩ := h2 (at' + j) (by omega)
  cases e
  exact ⟨b, off + at', by rw [hp (by omega)], hl, by rw [show off + at' + j = off + (at' + j) by omega]; exact hc⟩
end Vw
end Go.Proofs.YtecjegjnnahddaaGreat

/-
  View: the parts of a memory by its shape: acks, roots, weaks, an object's words.
-/
namespace Go.Proofs.YtecjegjnnahddaaGreat
open Go.RowKit
set_option linter.unusedVariables false
set_option linter.unusedSimpArgs false
set_option linter.unnecessarySimpa false
set_option maxRecDepth 20000
namespace Vw
open Shape

theorem at_root {x : Sh} (H : x.Ok) {j : Nat} (hj : j < x.h) : bR x + j * x.r + x.r ≤ bK x ∧ j * x.r + x.r ≤ 56 := by
  have h1 : (j + 1) * x.r ≤ x.h * x.r := Nat.mul_le_mul_right _ hj
  rw [Nat.succ_mul] at h1
  have := sizes H
  unfold bK
  omega
theorem at_obj {x : Sh} (H : x.Ok) {j : Nat} (hj : j < x.o) : pO x j + ow x ≤ size x ∧ j * ow x + ow x ≤ 448 := by
  have h1 : (j + 1) * ow x ≤ x.o * ow x := Nat.mul_le_mul_right _ hj
  rw [Nat.succ_mul] at h1
  have := sizes H
  unfold pO size
  omega
theorem lay_out (x : Sh) : bR x = 8 + x.h ∧ bK x = bR x + x.h * x.r ∧ bO x = bK x + x.k ∧ size x = bO x + x.o * ow x ∧ ow x = 3 + x.s := ⟨rfl, rfl, rfl, rfl, rfl⟩
theorem sc_ack {o s h r k : Nat} {s5 : Int} (H : (⟨o, s, h, r, k⟩ : Sh).Ok)  (w : World) : Calls Tryz.prog 80 #[.agg #[.int .i64 (o : Int), .int .i64 (s : Int), .int .i64 (h : Int), .int .i64 (r : Int), .int .i64 (k : Int), .int .i64 s5], .int .i64 0] w fun e w' => e = .returned (.tuple #[.int .i64 ((8 : Nat) : Int), .int .i64 0]) ∧ Below w.heap.size w w' := by
  have := ack_ok (s5 := s5) (a := 0) H rfl (show 0 < h from H.h1) w
  simpa using this
theorem sc_root {o s h r k : Nat} {s5 : Int} (H : (⟨o, s, h, r, k⟩ : Sh).Ok) {j : Nat} (hj : j < h) (w : World) : Calls Tryz.prog 82 #[.agg #[.int .i64 (o : Int), .int .i64 (s : Int), .int .i64 (h : Int), .int .i64 (r : Int), .int .i64 (k : Int), .int .i64 s5], .int .i64 (j : Int), .int .i64 0] w fun e w' => e = .returned (.tuple #[.int .i64 ((bR ⟨o, s, h, r, k⟩ + j * r : Nat) : Int), .int .i64 0]) ∧ Below w.heap.size w w' := by
  have h1 := (at_root H hj).2
  have := root_ok (s5 := s5) (a := j) (b := 0) H rfl (show j * r ≤ 56 by simp only at h1; omega) hj (show 0 < r from H.r1) w
  rw [show ((bR ⟨o, s, h, r, k⟩ + j * r : Nat) : Int) = 8 + (h : Int) + ((j * r : Nat) : Int) from by simp only [bR]; omega]
  simpa using this
theorem sc_weak {o s h r k : Nat} {s5 : Int} (H : (⟨o, s, h, r, k⟩ : Sh).Ok) (hk : 0 < k) (w : World) : Calls Tryz.prog 83 #[.agg #[.int .i64 (o : Int), .int .i64 (s : Int), .int .i64 (h : Int), .int .i64 (r : Int), .int .i64 (k : Int), .int .i64 s5], .int .i64 0] w fun e w' => e = .returned (.tuple #[.int .i64 ((bK ⟨o, s, h, r, k⟩ : Nat) : Int), .int .i64 0]) ∧ Below w.heap.size w w' := by
  have := weak_ok (s5 := s5) (a := 0) H rfl hk w
  rw [show ((bK ⟨o, s, h, r, k⟩ : Nat) : Int) = 8 + (h : Int) + ((h * r : Nat) : Int) from by simp only [bK, bR]; omega]
  simpa using this
theorem sc_weak0 {o s h r k : Nat} {s5 : Int} (H : (⟨o, s, h, r, k⟩ : Sh).Ok) (hk : k = 0) (w : World) : Calls Tryz.prog 83 #[.agg #[.int .i64 (o : Int), .int .i64 (s : Int), .int .i64 (h : Int), .int .i64 (r : Int), .int .i64 (k : Int), .int .i64 s5], .int .i64 0] w fun e w' => e = .returned (.tuple #[.int .i64 ((0 : Nat) : Int), .int .i64 2]) ∧ Below w.heap.size w w' := by
  subst hk
  exact weak_arg (s5 := s5) (r5 H) (by omega) w
theorem sc_obj {o s h r k : Nat} {s5 : Int} (H : (⟨o, s, h, r, k⟩ : Sh).Ok) {j : Nat} (hj : j < o) (w : World) : Calls Tryz.prog 85 #[.agg #[.int .i64 (o : Int), .int .i64 (s : Int), .int .i64 (h : Int), .int .i64 (r : Int), .int .i64 (k : Int), .int .i64 s5], .int .i64 ((j : Int) + 1)] w fun e w' => e = .returned (.tuple #[.int .i64 ((pO ⟨o, s, h, r, k⟩ j : Nat) : Int), .int .i64 0]) ∧ Below w.heap.size w w' := by
  have h1 := (at_obj H hj).2
  have := object_ok (s5 := s5) (a := j + 1) (q := j * (3 + s)) H rfl (by omega) hj (by simp) (show j * (3 + s) ≤ 448 by simp only [ow] at h1; omega) w
  rw [show ((pO ⟨o, s, h, r, k⟩ j : Nat) : Int) = 8 + (h : Int) + ((h * r : Nat) : Int) + (k : Int) + ((j * (3 + s) : Nat) : Int) from by simp only [pO, bO, bK, bR, ow]; omega]
  rw [show ((j : Int) + 1) = ((j + 1 : Nat) : Int) by omega]
  exact this

set_option maxHeartbeats 1000000 in
theorem acks_ok {o s h r k b off z cap : Nat} {s5 : Int} (H : (⟨o, s, h, r, k⟩ : Sh).Ok) (hz : size ⟨o, s, h, r, k⟩ = z) (hc : z ≤ cap)  (w : World) : Calls Tryz.prog 49 #[.agg #[.int .i64 (o : Int), .int .i64 (s : Int), .int .i64 (h : Int), .int .i64 (r : Int), .int .i64 (k : Int), .int .i64 s5, .slice (some ⟨b, off, none⟩) z cap]] w fun e w' => (∃ p cp, e = .returned (.slice (some p) (h) cp) ∧ h ≤ cp ∧ (0 < h → p = ⟨b, off + (8), none⟩)) ∧ Below w.heap.size w w' := by
  obtain ⟨g1, g2, g3, g4, g5, g6, g7, g8, g9, g10⟩ := bnds H
  obtain ⟨a1, ha1⟩ : ∃ a1, 8 = a1 := ⟨_, rfl⟩
  have z600 := (sizes H).2.2.2.2
  have hfit : a1 + (h) ≤ z := by
    rw [← ha1, ← hz]
    have := lay_out ⟨o, s, h, r, k⟩
    simp only at this ⊢
    omega
  have SC := hide (fun w1 => sc_ack (s5 := s5) H  w1)
  rw [hz] at z600
  rw [ha1] at SC ⊢
  have PO := hide (fun w1 => part_ok (o := o) (s := s) (h := h) (r := r) (k := k) (b := b) (off := off) (z := z) (cap := cap) (s5 := s5) (at' := a1) (n := h) hfit hc z600 w1)
  clear H hz ha1 g6 g7
  obtain ⟨W0, hW0, B0, K⟩ := mbox w o s h r k b off z cap s5
  have HB := hide B0
  obtain ⟨-, l0, x0, x1, x2, x3, x4, x5, x6⟩ := K.out W0 (Below.refl _ _)
  clear B0
  go_enter Tryz.func49, Tryz.ntmps49
  go_wp2_with (first | (go_at_call 80; refine (SC.out _).mono ?_; rintro e w1 ⟨rfl, hb1⟩; have HB1 := hide hb1; clear hb1; obtain ⟨-, m1, y0, y1, y2, y3, y4, y5, y6⟩ := K.out w1 HB1.out) | (go_at_call 81; refine (PO.out _).mono ?_; rintro e w2 ⟨⟨p, cp, rfl, hcp, hp⟩, hb2⟩; have HP := hide hp; clear hp; have HB2 := hide (HB1.out.trans (hb2.mono HB1.out.size)); clear hb2))
  go_ret
  exact ⟨⟨p, cp, rfl, hcp, HP.out⟩, (K.out _ HB2.out).1⟩

set_option maxHeartbeats 1000000 in
theorem roots_ok {o s h r k b off z cap : Nat} {s5 : Int} (H : (⟨o, s, h, r, k⟩ : Sh).Ok) (hz : size ⟨o, s, h, r, k⟩ = z) (hc : z ≤ cap) {j : Nat} (hj : j < h) (w : World) : Calls Tryz.prog 50 #[.agg #[.int .i64 (o : Int), .int .i64 (s : Int), .int .i64 (h : Int), .int .i64 (r : Int), .int .i64 (k : Int), .int .i64 s5, .slice (some ⟨b, off, none⟩) z cap], .int .i64 (j : Int)] w fun e w' => (∃ p cp, e = .returned (.slice (some p) (r) cp) ∧ r ≤ cp ∧ (0 < r → p = ⟨b, off + (bR ⟨o, s, h, r, k⟩ + j * r), none⟩)) ∧ Below w.heap.size w w' := by
  obtain ⟨g1, g2, g3, g4, g5, g6, g7, g8, g9, g10⟩ := bnds H
  obtain ⟨a1, ha1⟩ : ∃ a1, bR ⟨o, s, h, r, k⟩ + j * r = a1 := ⟨_, rfl⟩
  have z600 := (sizes H).2.2.2.2
  have hfit : a1 + (r) ≤ z := by
    rw [← ha1, ← hz]
    have := lay_out ⟨o, s, h, r, k⟩
    have := (at_root H hj).1
    simp only at this ⊢
    omega
  have SC := hide (fun w1 => sc_root (s5 := s5) H hj w1)
  rw [hz] at z600
  rw [ha1] at SC ⊢
  have PO := hide (fun w1 => part_ok (o := o) (s := s) (h := h) (r := r) (k := k) (b := b) (off := off) (z := z) (cap := cap) (s5 := s5) (at' := a1) (n := r) hfit hc z600 w1)
  clear H hz ha1 g6 g7
  obtain ⟨W0, hW0, B0, K⟩ := mbox w o s h r k b off z cap s5
  have HB := hide B0
  obtain ⟨-, l0, x0, x1, x2, x3, x4, x5, x6⟩ := K.out W0 (Below.refl _ _)
  clear B0
  go_enter Tryz.func50, Tryz.ntmps50
  go_wp2_with (first | (go_at_call 82; refine (SC.out _).mono ?_; rintro e w1 ⟨rfl, hb1⟩; have HB1 := hide hb1; clear hb1; obtain ⟨-, m1, y0, y1, y2, y3, y4, y5, y6⟩ := K.out w1 HB1.out) | (go_at_call 81; refine (PO.out _).mono ?_; rintro e w2 ⟨⟨p, cp, rfl, hcp, hp⟩, hb2⟩; have HP := hide hp; clear hp; have HB2 := hide (HB1.out.trans (hb2.mono HB1.out.size)); clear hb2))
  go_ret
  exact ⟨⟨p, cp, rfl, hcp, HP.out⟩, (K.out _ HB2.out).1⟩

set_option maxHeartbeats 1000000 in
theorem weaks_some {o s h r k b off z cap : Nat} {s5 : Int} (H : (⟨o, s, h, r, k⟩ : Sh).Ok) (hz : size ⟨o, s, h, r, k⟩ = z) (hc : z ≤ cap) (hk : 0 < k) (w : World) : Calls Tryz.prog 51 #[.agg #[.int .i64 (o : Int), .int .i64 (s : Int), .int .i64 (h : Int), .int .i64 (r : Int), .int .i64 (k : Int), .int .i64 s5, .slice (some ⟨b, off, none⟩) z cap]] w fun e w' => (∃ p cp, e = .returned (.slice (some p) (k) cp) ∧ k ≤ cp ∧ (0 < k → p = ⟨b, off + (bK ⟨o, s, h, r, k⟩), none⟩)) ∧ Below w.heap.size w w' := by
  obtain ⟨g1, g2, g3, g4, g5, g6, g7, g8, g9, g10⟩ := bnds H
  obtain ⟨a1, ha1⟩ : ∃ a1, bK ⟨o, s, h, r, k⟩ = a1 := ⟨_, rfl⟩
  have z600 := (sizes H).2.2.2.2
  have hfit : a1 + (k) ≤ z := by
    rw [← ha1, ← hz]
    have := lay_out ⟨o, s, h, r, k⟩
    simp only at this ⊢
    omega
  have SC := hide (fun w1 => sc_weak (s5 := s5) H hk w1)
  rw [hz] at z600
  rw [ha1] at SC ⊢
  have PO := hide (fun w1 => part_ok (o := o) (s := s) (h := h) (r := r) (k := k) (b := b) (off := off) (z := z) (cap := cap) (s5 := s5) (at' := a1) (n := k) hfit hc z600 w1)
  clear H hz ha1 g6 g7
  obtain ⟨W0, hW0, B0, K⟩ := mbox w o s h r k b off z cap s5
  have HB := hide B0
  obtain ⟨-, l0, x0, x1, x2, x3, x4, x5, x6⟩ := K.out W0 (Below.refl _ _)
  clear B0
  go_enter Tryz.func51, Tryz.ntmps51
  go_wp2_with (first | (go_at_call 83; refine (SC.out _).mono ?_; rintro e w1 ⟨rfl, hb1⟩; have HB1 := hide hb1; clear hb1; obtain ⟨-, m1, y0, y1, y2, y3, y4, y5, y6⟩ := K.out w1 HB1.out) | (go_at_call 81; refine (PO.out _).mono ?_; rintro e w2 ⟨⟨p, cp, rfl, hcp, hp⟩, hb2⟩; have HP := hide hp; clear hp; have HB2 := hide (HB1.out.trans (hb2.mono HB1.out.size)); clear hb2))
  go_ret
  exact ⟨⟨p, cp, rfl, hcp, HP.out⟩, (K.out _ HB2.out).1⟩

set_option maxHeartbeats 1000000 in
theorem weaks_none {o s h r k b off z cap : Nat} {s5 : Int} (H : (⟨o, s, h, r, k⟩ : Sh).Ok) (hz : size ⟨o, s, h, r, k⟩ = z) (hc : z ≤ cap) (hk : k = 0) (w : World) : Calls Tryz.prog 51 #[.agg #[.int .i64 (o : Int), .int .i64 (s : Int), .int .i64 (h : Int), .int .i64 (r : Int), .int .i64 (k : Int), .int .i64 s5, .slice (some ⟨b, off, none⟩) z cap]] w fun e w' => (∃ p cp, e = .returned (.slice (some p) (k) cp) ∧ k ≤ cp ∧ (0 < k → p = ⟨b, off + (0), none⟩)) ∧ Below w.heap.size w w' := by
  obtain ⟨g1, g2, g3, g4, g5, g6, g7, g8, g9, g10⟩ := bnds H
  have z600 := (sizes H).2.2.2.2
  have hfit : 0 + k ≤ z := by
    rw [← hz]
    have := lay_out ⟨o, s, h, r, k⟩
    simp only at this ⊢
    omega
  have SC := hide (fun w1 => sc_weak0 (s5 := s5) H hk w1)
  rw [hz] at z600
  simp only [show ((0 : Nat) : Int) = 0 from rfl] at SC
  have PO := hide (fun w1 => part_ok (o := o) (s := s) (h := h) (r := r) (k := k) (b := b) (off := off) (z := z) (cap := cap) (s5 := s5) (at' := 0) (n := k) hfit hc z600 w1)
  simp only [show ((0 : Nat) : Int) = 0 from rfl] at PO
  clear H hz hk g6 g7
  obtain ⟨W0, hW0, B0, K⟩ := mbox w o s h r k b off z cap s5
  have HB := hide B0
  obtain ⟨-, l0, x0, x1, x2, x3, x4, x5, x6⟩ := K.out W0 (Below.refl _ _)
  clear B0
  go_enter Tryz.func51, Tryz.ntmps51
  go_wp2_with (first | (go_at_call 83; refine (SC.out _).mono ?_; rintro e w1 ⟨rfl, hb1⟩; have HB1 := hide hb1; clear hb1; obtain ⟨-, m1, y0, y1, y2, y3, y4, y5, y6⟩ := K.out w1 HB1.out) | (go_at_call 81; refine (PO.out _).mono ?_; rintro e w2 ⟨⟨p, cp, rfl, hcp, hp⟩, hb2⟩; have HP := hide hp; clear hp; have HB2 := hide (HB1.out.trans (hb2.mono HB1.out.size)); clear hb2))
  go_ret
  exact ⟨⟨p, cp, rfl, hcp, HP.out⟩, (K.out _ HB2.out).1⟩

set_option maxHeartbeats 1000000 in
theorem object_ok {o s h r k b off z cap : Nat} {s5 : Int} (H : (⟨o, s, h, r, k⟩ : Sh).Ok) (hz : size ⟨o, s, h, r, k⟩ = z) (hc : z ≤ cap) {j : Nat} (hj : j < o) (w : World) : Calls Tryz.prog 53 #[.agg #[.int .i64 (o : Int), .int .i64 (s : Int), .int .i64 (h : Int), .int .i64 (r : Int), .int .i64 (k : Int), .int .i64 s5, .slice (some ⟨b, off, none⟩) z cap], .int .i64 ((j : Int) + 1)] w fun e w' => (∃ p cp, e = .returned (.slice (some p) (3 + s) cp) ∧ 3 + s ≤ cp ∧ (0 < 3 + s → p = ⟨b, off + (pO ⟨o, s, h, r, k⟩ j), none⟩)) ∧ Below w.heap.size w w' := by
  obtain ⟨g1, g2, g3, g4, g5, g6, g7, g8, g9, g10⟩ := bnds H
  obtain ⟨a1, ha1⟩ : ∃ a1, pO ⟨o, s, h, r, k⟩ j = a1 := ⟨_, rfl⟩
  have z600 := (sizes H).2.2.2.2
  have hfit : a1 + (3 + s) ≤ z := by
    rw [← ha1, ← hz]
    have := (at_obj H hj).1
    simp only [ow] at this ⊢
    omega
  have SC := hide (fun w1 => sc_obj (s5 := s5) H hj w1)
  rw [hz] at z600
  rw [ha1] at SC ⊢
  have PO := hide (fun w1 => part_ok (o := o) (s := s) (h := h) (r := r) (k := k) (b := b) (off := off) (z := z) (cap := cap) (s5 := s5) (at' := a1) (n := 3 + s) hfit hc z600 w1)
  clear H hz ha1 g6 g7
  obtain ⟨W0, hW0, B0, K⟩ := mbox w o s h r k b off z cap s5
  have HB := hide B0
  obtain ⟨-, l0, x0, x1, x2, x3, x4, x5, x6⟩ := K.out W0 (Below.refl _ _)
  clear B0
  go_enter Tryz.func53, Tryz.ntmps53
  go_wp2_with (first | (go_at_call 85; refine (SC.out _).mono ?_; rintro e w1 ⟨rfl, hb1⟩; have HB1 := hide hb1; clear hb1; obtain ⟨-, m1, y0, y1, y2, y3, y4, y5, y6⟩ := K.out w1 HB1.out) | (go_at_call 81; refine (PO.out _).mono ?_; rintro e w2 ⟨⟨p, cp, rfl, hcp, hp⟩, hb2⟩; have HP := hide hp; clear hp; have HB2 := hide (HB1.out.trans (hb2.mono HB1.out.size)); clear hb2))
  go_ret
  exact ⟨⟨p, cp, rfl, hcp, HP.out⟩, (K.out _ HB2.out).1⟩
theorem weaks_ok {o s h r k b off z cap : Nat} {s5 : Int} (H : (⟨o, s, h, r, k⟩ : Sh).Ok) (hz : size ⟨o, s, h, r, k⟩ = z) (hc : z ≤ cap) (w : World) : Calls Tryz.prog 51 #[.agg #[.int .i64 (o : Int), .int .i64 (s : Int), .int .i64 (h : Int), .int .i64 (r : Int), .int .i64 (k : Int), .int .i64 s5, .slice (some ⟨b, off, none⟩) z cap]] w fun e w' => (∃ p cp, e = .returned (.slice (some p) k cp) ∧ k ≤ cp ∧ (0 < k → p = ⟨b, off + bK ⟨o, s, h, r, k⟩, none⟩)) ∧ Below w.heap.size w w' := by
  by_cases hk : 0 < k
  · exact weaks_some H hz hc hk w
  · refine (weaks_none (b := b) (off := off) (s5 := s5) H hz hc (by omega) w).mono ?_
    rintro e w' ⟨⟨p, cp, h1, h2, h3⟩, h4⟩
    exact ⟨⟨p, cp, h1, h2, fun h => absurd h hk⟩, h4⟩
end Vw
end Go.Proofs.YtecjegjnnahddaaGreat

/-
  View: lists as they are seen: Contains, the package's list.
-/
namespace Go.Proofs.YtecjegjnnahddaaGreat
open Go.RowKit
set_option linter.unusedVariables false
set_option linter.unusedSimpArgs false
set_option linter.unnecessarySimpa false
set_option maxRecDepth 20000
namespace Vw
open Shape

theorem mem_take_more {l : List Int} {k : Nat} {c x : Int} (h : ¬ c ∈ l.take k) (hk : l[k]? = some x) (hx : ¬ c = x) : ¬ c ∈ l.take (k + 1) := by
  intro hm
  rw [List.take_add_one, hk] at hm
  simp at hm
  rcases hm with hm | hm
  · exact h hm
  · exact hx hm

set_option maxHeartbeats 1000000 in
theorem index_ok {w : World} {ao : Option Addr} {l : List Int} {cap : Nat} {c : Int} (h : SeesN w ao l) (hl : l.length ≤ 70000) :
    Calls Tryz.prog 101 #[.slice ao l.length cap, .int .i64 c] w fun e w' => (∃ v, e = .returned (.int .i64 v) ∧ (0 ≤ v ↔ c ∈ l)) ∧ w' = w := by
  have H := hide h
  obtain ⟨n, hn⟩ : ∃ n, l.length = n := ⟨_, rfl⟩
  have HN := hide hn
  rw [hn] at hl
  rw [hn]
  clear h hn
  go_enter Tryz.func101, Tryz.ntmps101
  go_wp2_with fail
  go_loopw [8] (fun i wr => ∃ k : Nat, k ≤ n ∧ i = .int .i64 k ∧ Hid (¬ c ∈ l.take k) ∧ wr = w) (fun i _ => n - (intOf i).toNat)
  case atStart => exact ⟨0, Nat.zero_le _, rfl, show ¬ _ by simp, rfl⟩
  case round =>
    obtain ⟨k, hk, rfl, HK, rfl⟩ := hrel
    by_cases hlt : k < n
    · obtain ⟨x, hx⟩ : ∃ x, l[k]? = some x := ⟨l[k]'(by rw [HN.out]; exact hlt), List.getElem?_eq_getElem _⟩
      have HX := hide hx
      obtain ⟨b, off, rfl, hbl, hcc⟩ := H.out k x hx
      clear hx
      have hkn : (k : Int) < (n : Int) := by omega
      by_cases he : c = x
      · subst he
        go_wp2
        go_ret
        exact ⟨⟨_, rfl, by constructor; intro _; exact List.mem_of_getElem? HX.out; intro _; omega⟩, rfl⟩
      · have he2 : (c == x) = false := by simp [he]
        go_wp2
        go_roundw
        case rel => exact ⟨k + 1, by omega, by go_num, mem_take_more HK.out HX.out he, trivial⟩
        case measure => simp [intOf]; omega
    · have hkn : ¬ (k : Int) < (n : Int) := by omega
      go_wp2
      go_ret
      refine ⟨⟨_, rfl, ?_⟩, rfl⟩
      constructor
      · intro h1; omega
      · intro hm
        exfalso
        have := HK.out
        rw [List.take_of_length_le (by rw [HN.out]; omega)] at this
        exact this hm

set_option maxHeartbeats 1000000 in
theorem contains_ok {w : World} {ao : Option Addr} {l : List Int} {n cap : Nat} {c : Int} (h : SeesN w ao l) (hn : l.length = n) (hl : n ≤ 70000) :
    Calls Tryz.prog 90 #[.slice ao n cap, .int .i64 c] w fun e w' => e = .returned (.bool (decide (c ∈ l))) ∧ w' = w := by
  subst hn
  have IO := hide (index_ok (cap := cap) (c := c) h hl)
  clear h
  go_enter Tryz.func90, Tryz.ntmps90
  go_wp2_with (go_at_call 101; refine IO.out.mono ?_; rintro e w1 ⟨⟨v, rfl, hv⟩, rfl⟩; have HV := hide hv; clear hv)
  go_ret
  refine ⟨ret_bool ?_, rfl⟩
  have := HV.out
  simp [this]

def lenV : Value → Nat
  | .slice _ n _ => n
  | _ => 0
theorem own_slice {w : World} {base : Nat} {e : TypeId} {size : Nat} {v : Value} {n : Nat} {xs : List Value} (h : w.ownsRow base e size v n xs) : ∃ ao cp, v = .slice ao n cp := by
  obtain ⟨hl, ⟨rfl, rfl⟩ | ⟨g, cap, cur, rfl, _⟩⟩ := h
  · exact ⟨_, _, rfl⟩
  · exact ⟨_, _, rfl⟩
theorem below_grown {B : Nat} {w wr w1 : World} {v : Value} {e : TypeId} {size n : Nat} {xs : List Value} (HB : Below B w wr) (HO : wr.ownsRow B e size v n xs) (G : wr.grownBy w1 v.ownBlock) (hB : B ≤ wr.heap.size) : Below B w w1 := by
  refine ⟨G.os.trans HB.os, G.tape.trans HB.tape, G.output.trans HB.output, Nat.le_trans HB.size G.size, fun k hk => ?_⟩
  refine (G.block k (by omega) (fun e => ?_)).trans (HB.block k hk)
  have := (HO.lt k e.symm).1
  omega

set_option maxHeartbeats 2000000 in
theorem list_ok {o s h r k b off z cap : Nat} {s5 : Int} {B at' over : Nat} {f : Nat → Int} (H : (⟨o, s, h, r, k⟩ : Sh).Ok) (hz : size ⟨o, s, h, r, k⟩ = z) (hc : z ≤ cap) (hat : at' < 8) (hov : over < 3) {w : World} (hS : Sees w B (some ⟨b, off, none⟩) z f) (hB : B ≤ w.heap.size) (hf : ∀ i, i < z → 0 ≤ f i ∧ f i < 18446744073709551616) :
    Calls Tryz.prog 88 #[.agg #[.int .i64 (o : Int), .int .i64 (s : Int), .int .i64 (h : Int), .int .i64 (r : Int), .int .i64 (k : Int), .int .i64 s5, .slice (some ⟨b, off, none⟩) z cap], .int .i64 (at' : Int), .int .i64 (over : Int)] w fun e w' => (∃ fa cf, e = .returned (.tuple #[.slice fa (lst ⟨o, s, h, r, k⟩ f at' over).1.length cf, .int .i64 (lst ⟨o, s, h, r, k⟩ f at' over).2]) ∧ Hid (w'.ownsRow w.heap.size 3 1 (.slice fa (lst ⟨o, s, h, r, k⟩ f at' over).1.length cf) (lst ⟨o, s, h, r, k⟩ f at' over).1.length (ncs (lst ⟨o, s, h, r, k⟩ f at' over).1))) ∧ Below w.heap.size w w' := by
  obtain ⟨R, hR⟩ : ∃ R, lst ⟨o, s, h, r, k⟩ f at' over = R := ⟨_, rfl⟩
  rw [hR]
  have HR := hide hR
  have g1 := (bnds H).1
  have z8 : 8 ≤ z := by rw [← hz]; have := lay_out ⟨o, s, h, r, k⟩; simp only at this ⊢; omega
  have HO := hide (fun (j : Nat) (hj : j < o) w1 => object_ok (b := b) (off := off) (s5 := s5) H hz hc hj w1)
  have HAT := hide (show ∀ j, j < o → pO ⟨o, s, h, r, k⟩ j + over < z from fun j hj => by have := (at_obj H hj).1; rw [← hz]; simp only [ow] at this ⊢; omega)
  have HS := hide (fun (w' : World) (hb : Below w.heap.size w w') (i : Nat) (hi : i < z) => show w'.cell? ⟨b, off + i, none⟩ = some (.int .u64 (f i)) by
    obtain ⟨b1, o1, e1, hl, hc⟩ := hS i hi
    cases e1
    exact (hb.cell (p := ⟨b, off + i, none⟩) (by show b < w.heap.size; omega)).trans hc)
  have HF := hide hf
  have hf0 := hf at' (by omega)
  have hati : (at' : Int) < (z : Int) := by omega
  obtain ⟨i3, hi3, hz3, hs3, hy3⟩ := infoI
  clear hR hS hf H
  obtain ⟨W0, hW0, B0, K⟩ := mbox w o s h r k b off z cap s5
  have HB := hide B0
  obtain ⟨-, l0, x0, x1, x2, x3, x4, x5, x6⟩ := K.out W0 (Below.refl _ _)
  have c0 := HS.out W0 B0 at' (by omega)
  clear B0
  go_enter Tryz.func88, Tryz.ntmps88
  go_wp2_with (go_at_call 100; refine (index_any _ hf0.1 hf0.2 _).mono ?_; rintro e w1 ⟨rfl, hq⟩; obtain rfl := hq.symm)
  go_loopw [6, 7] (fun v i wr => ∃ (seen : List Int) (cur : Int), i = .int .i64 cur ∧ Hid (wr.ownsRow W0.heap.size 3 1 v seen.length (ncs seen)) ∧ Hid (Sn o seen) ∧ Hid (al o (nxt ⟨o, s, h, r, k⟩ f over) (o - seen.length) seen cur = R) ∧ Hid (Below W0.heap.size W0 wr)) (fun v _ _ => o - lenV v)
  case atStart => exact ⟨[], _, rfl, World.ownsRow_nil _ _ _ _, Sn.nil o, show _ = _ by simpa [lst] using HR.out, Below.refl _ _⟩
  case round =>
    obtain ⟨seen, cur, rfl, HOW, HSN, HAL, HW⟩ := hrel
    have HBr := hide (HB.out.trans (HW.out.mono HB.out.size))
    obtain ⟨-, n1, y0, y1, y2, y3, y4, y5, y6⟩ := K.out wr HW.out
    have hlen := HSN.out.len
    obtain ⟨ao, cp, rfl⟩ := own_slice HOW.out
    have fin : ¬ (1 ≤ cur ∧ cur ≤ (o : Int) ∧ ¬ cur ∈ seen) → R = (seen, cur) := fun hn => by have := HAL.out; rw [al_stop _ _ _ hn] at this; exact this.symm
    have FIN := hide fin
    clear fin x0 x1 x2 x3 x4 x5 x6 c0 hf0
    by_cases q1 : 1 ≤ cur
    · by_cases q2 : cur ≤ (o : Int)
      · have CO := hide (contains_ok (w := wr) (cap := cp) (c := cur) (owns_seesN HOW.out) rfl (by omega))
        by_cases q3 : cur ∈ seen
        · have d3 : decide (cur ∈ seen) = true := by simp [q3]
          rw [d3] at CO
          have HRR := hide (FIN.out (fun h => h.2.2 q3))
          clear q3 d3
          go_wp2_with (go_at_call 90; refine CO.out.mono ?_; rintro e w1 ⟨rfl, hq⟩; obtain rfl := hq.symm)
          go_ret2
          refine ⟨⟨ao, cp, ?_, ?_⟩, HBr.out⟩
          · rw [HRR.out]; rfl
          · rw [HRR.out]; exact owns_low HOW.out HB.out.size
        · have d3 : decide (cur ∈ seen) = false := by simp [q3]
          rw [d3] at CO
          have HSN2 := hide (HSN.out.more q1 q2 q3)
          have HAL2 := hide (show al o (nxt ⟨o, s, h, r, k⟩ f over) (o - (seen ++ [cur]).length) (seen ++ [cur]) (nxt ⟨o, s, h, r, k⟩ f over cur) = R from (al_go HSN.out ⟨q1, q2, q3⟩).symm.trans HAL.out)
          have hl2 := HSN2.out.len
          simp only [List.length_append, List.length_singleton] at hl2
          clear q3 d3
          obtain ⟨j, rfl⟩ : ∃ j : Nat, cur = (j : Int) + 1 := ⟨cur.toNat - 1, by omega⟩
          have hj : j < o := by omega
          have hp1 := HAT.out j hj
          have hpf := HF.out _ hp1
          have OB := hide (fun w1 => HO.out j hj w1)
          have HNX := hide (show nxt ⟨o, s, h, r, k⟩ f over ((j : Int) + 1) = f (pO ⟨o, s, h, r, k⟩ j + over) % 4294967296 from by
            unfold nxt
            rw [show ((j : Int) + 1).toNat - 1 = j by omega])
          obtain ⟨a1, ha1⟩ : ∃ a1, pO ⟨o, s, h, r, k⟩ j = a1 := ⟨_, rfl⟩
          rw [ha1] at OB hp1 hpf HNX
          have hov2 : (over : Int) < ((3 + s : Nat) : Int) := by omega
          clear ha1
          go_wp2_with (first
            | (go_at_call 90; refine CO.out.mono ?_; rintro e w1 ⟨rfl, hq⟩; obtain rfl := hq.symm; clear hq)
            | (at_builtin; refine wpList_append_own_at _ rfl (.tmp 29) (.tmp 31) 28 rfl W0.heap.size 3 i3 (.int .i64 0) 1 8 Tryz.underlying28 hi3 hz3 hs3 hy3 rfl (by decide) (.slice ao seen.length cp) seen.length (ncs seen) rfl (HOW.out.alloc _) ⟨wr.heap.size, 0, none⟩ 1 1 [.int .i64 ((j : Int) + 1)] rfl (by simp) (cell_one_new wr (.int .i64 ((j : Int) + 1)) 3) (by simp [Value.oneCell']) (by unfold maxLen; omega) (by omega) (by have := HW.out.size; simp; omega) ?_; intro v2 w2 hown hgr _ _; have HOW2 := hide hown; have HB2 := hide (below_grown (HW.out.alloc HW.out.size _) (HOW.out.alloc _) hgr (by have := HW.out.size; simp; omega)); clear hown hgr; obtain ⟨hbb, n2, v0, v1, v3, v4, v5, v6, v7⟩ := K.out w2 HB2.out; have HBB := hide hbb; clear hbb)
            | (go_at_call 53; refine (OB.out _).mono ?_; rintro e w3 ⟨⟨p, cp3, rfl, hcp, hp⟩, hb3⟩; obtain rfl := hp (by omega); clear hp; have HB3 := hide hb3; clear hb3; have c3 : w3.cell? ⟨b, off + a1 + over, none⟩ = some (.int .u64 (f (a1 + over))) := by rw [show off + a1 + over = off + (a1 + over) by omega]; exact HS.out w3 (HBB.out.trans (HB3.out.mono HBB.out.size)) (a1 + over) hp1)
            | (go_at_call 100; refine (index_any _ hpf.1 hpf.2 _).mono ?_; rintro e w4 ⟨rfl, hq⟩; obtain rfl := hq.symm; clear hq))
          go_roundw
          case rel =>
            refine ⟨seen ++ [(j : Int) + 1], _, rfl, ?_, HSN2.out, ?_, HB2.out.trans (HB3.out.mono HB2.out.size)⟩
            · have e1 := owns_on HOW2.out HB3.out
              rw [← ncs_more] at e1
              show World.ownsRow _ _ _ _ _ _ _
              simpa using e1
            · show _ = _
              rw [← HNX.out]
              exact HAL2.out
          case measure =>
            obtain ⟨ao2, cp2, e2⟩ := own_slice HOW2.out
            rw [e2]
            simp only [lenV]
            omega
      · have HRR := hide (FIN.out (fun h => q2 h.2.1))
        go_wp2_with fail
        go_ret2
        refine ⟨⟨ao, cp, ?_, ?_⟩, HBr.out⟩
        · rw [HRR.out]; rfl
        · rw [HRR.out]; exact owns_low HOW.out HB.out.size
    · have HRR := hide (FIN.out (fun h => q1 h.1))
      go_wp2_with fail
      go_ret2
      refine ⟨⟨ao, cp, ?_, ?_⟩, HBr.out⟩
      · rw [HRR.out]; rfl
      · rw [HRR.out]; exact owns_low HOW.out HB.out.size
end Vw
end Go.Proofs.YtecjegjnnahddaaGreat
