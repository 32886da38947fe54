/-
  Lemmas: LtR, VsF, VsS, RoomTL, WordV, WordS.
-/
import Derived.Test.YtidihnnmdmlgfaaGreatTp18
import Derived.Orders
import Derived.Test.YtidihnnmdmlgfaaGreatTp21
import Derived.Test.YtidihnnmdmlgfaaGreatTp17
import Derived.Test.YtidihnnmdmlgfaaGreatRows
import Derived.WalkKit
import Derived.WalkSpells
import Derived.WalkLawsBesides
import Derived.Laws.Bits64
import Derived.Deep.RegionWith
namespace Go.Proofs.YtidihnnmdmlgfaaGreat
set_option maxHeartbeats 8000000
open Go.RowKit
set_option linter.unusedVariables false
set_option linter.unusedSimpArgs false
set_option linter.unnecessarySimpa false
set_option maxRecDepth 20000
section
namespace Lt
def cnt (g : Nat → Bool) : Nat → Nat
  | 0 => 0
  | i + 1 => cnt g i + (if g i then 1 else 0)
theorem cnt_le (g : Nat → Bool) : ∀ i, cnt g i ≤ i
  | 0 => Nat.le_refl _
  | i + 1 => by have := cnt_le g i; simp only [cnt]; split <;> omega
theorem cnt_zero {g : Nat → Bool} : ∀ {n : Nat}, cnt g n = 0 → ∀ i, i < n → g i = false
  | 0, _, i, hi => absurd hi (by omega)
  | n + 1, h, i, hi => by
    simp only [cnt] at h
    cases hn : g n with
    | true => rw [hn] at h; simp at h
    | false =>
      by_cases e : i = n
      · subst e; exact hn
      · exact cnt_zero (n := n) (by rw [hn] at h; simpa using h) i (by omega)
def up (L : Nat → Bool) (i : Nat) : Nat → Bool := fun j => if j = i then true else L j
theorem up_same (L : Nat → Bool) (i : Nat) : up L i i = true := by simp [up]
theorem up_other (L : Nat → Bool) {i j : Nat} (h : j ≠ i) : up L i j = L j := by simp [up, h]
theorem cnt_up {L : Nat → Bool} {i : Nat} (hi : L i = false) : ∀ n, cnt (fun j => !(up L i) j) n + (if i < n then 1 else 0) = cnt (fun j => !L j) n
  | 0 => by simp [cnt]
  | n + 1 => by
    have ih := cnt_up hi n
    simp only [cnt]
    by_cases h : n = i
    · subst h
      simp only [up_same, Nat.lt_irrefl, if_false, Nat.add_zero] at ih ⊢
      simp [hi, ih]
    · have hu : up L i n = L n := up_other _ h
      have : (i < n + 1) = (i < n) := by apply propext; omega
      simp only [this, hu]
      omega
def lis (listed : Array Bool) : Nat → Bool := fun i => listed.getD i false
theorem lis_set {listed : Array Bool} {i : Nat} (hi : i < listed.size) : lis (listed.setIfInBounds i true) = up (lis listed) i := by
  funext j
  by_cases h : j = i
  · subst h; simp [lis, hi, up]
  · rw [up_other _ h]
    simp [lis, Array.getElem?_setIfInBounds_ne (Ne.symm h)]
section
variable {P : Program} {ops : Array Oper} {Q : Exit → Act → World → Prop} {md : Region.Mode}
theorem wpAny_inv (hback : ∀ (i : Nat) (o : Oper), ops[i]? = some o → ∀ e ∈ o.after, Region.binds md e = true → e.on < i) (I : (Nat → Bool) → Act → World → Prop)
    (hstep : ∀ (L : Nat → Bool) (a : Act) (w : World) (i : Nat) (o : Oper), I L a w → ops[i]? = some o → L i = false → (∀ e ∈ o.after, Region.binds md e = true → L e.on = true) → (Region.wanted o (yielded ops a.tmps) = true ∧ o.wp P a w (fun a' w' => I (up L i) a' w') Q) ∨ (Region.wanted o (yielded ops a.tmps) = false ∧ I (up L i) (a.put o.dst undef) w))
    (hend : ∀ (L : Nat → Bool) (a : Act) (w : World), I L a w → (∀ i, i < ops.size → L i = true) → Q .normal a w) :
    ∀ fuel listed a w, listed.size = ops.size → cnt (fun i => !(lis listed) i) ops.size ≤ fuel → I (lis listed) a w → wpAny P md ops Q fuel listed a w := by
  have none_ready : ∀ listed : Array Bool, listed.size = ops.size → Region.ready md ops listed = [] → ∀ i, i < ops.size → lis listed i = true := by
    intro listed hsz hr i
    induction i using Nat.strongRecOn with
    | ind i ih =>
      intro hi
      cases hl : lis listed i with
      | true => rfl
      | false =>
        exfalso
        have hm : i ∈ Region.ready md ops listed := by
          rw [mem_ready]
          refine ⟨?_, ops[i], by simp [hi], fun e he hb => ?_⟩
          · have hlt : i < listed.size := by omega
            simp only [lis] at hl
            simpa [hlt] using hl
          · have hlt := hback i ops[i] (by simp [hi]) e he hb
            exact ih e.on hlt (by omega)
        rw [hr] at hm
        cases hm
  intro fuel
  induction fuel with
  | zero =>
    intro listed a w hsz hc hI
    have hall : ∀ i, i < ops.size → lis listed i = true := fun i hi => by
      have := cnt_zero (g := fun i => !(lis listed) i) (n := ops.size) (by omega) i hi
      simpa using this
    refine ⟨?_, hend _ a w hI hall⟩
    cases hr : Region.ready md ops listed with
    | nil => rfl
    | cons x xs =>
      exfalso
      have hx : x ∈ Region.ready md ops listed := by rw [hr]; simp
      rw [mem_ready] at hx
      obtain ⟨h0, o, ho, _⟩ := hx
      have hlt : x < ops.size := (Array.getElem?_eq_some_iff.1 ho).1
      have := hall x hlt
      have hlt' : x < listed.size := by omega
      simp [lis, hlt'] at this
      simp [hlt'] at h0
      rw [h0] at this
      cases this
  | succ fuel ih =>
    intro listed a w hsz hc hI
    refine ⟨fun hr => hend _ a w hI (none_ready listed hsz hr), fun i hi => ?_⟩
    rw [mem_ready] at hi
    obtain ⟨h0, o, ho, hdep⟩ := hi
    have hlt : i < ops.size := (Array.getElem?_eq_some_iff.1 ho).1
    have hlt' : i < listed.size := by omega
    have hf : lis listed i = false := by simp [hlt'] at h0; simp [lis, hlt', h0]
    have hs := hstep (lis listed) a w i o hI ho hf hdep
    have go : ∀ a' w', I (up (lis listed) i) a' w' → wpAny P md ops Q fuel (listed.setIfInBounds i true) a' w' := fun a' w' h => by
      refine ih _ a' w' (by simpa using hsz) ?_ (by rw [lis_set hlt']; exact h)
      rw [lis_set hlt']
      have := cnt_up hf ops.size
      rw [if_pos hlt] at this
      omega
    unfold wpOp
    simp only [ho]
    rcases hs with ⟨hw, hs⟩ | ⟨hw, hs⟩
    · rw [if_pos hw]
      left
      exact Oper.wp_mono go hs
    · rw [hw]
      simp only [Bool.false_eq_true, if_false]
      exact go _ _ hs
theorem region_inv {id : Nat} {a : Act} {w : World} (hm : P.follows .mixedOrders = true) (hback : ∀ (i : Nat) (o : Oper), ops[i]? = some o → ∀ e ∈ o.after, Region.binds .any e = true → e.on < i) (I : (Nat → Bool) → Act → World → Prop)
    (hstep : ∀ (L : Nat → Bool) (a : Act) (w : World) (i : Nat) (o : Oper), I L a w → ops[i]? = some o → L i = false → (∀ e ∈ o.after, Region.binds .any e = true → L e.on = true) → (Region.wanted o (yielded ops a.tmps) = true ∧ o.wp P a w (fun a' w' => I (up L i) a' w') Q) ∨ (Region.wanted o (yielded ops a.tmps) = false ∧ I (up L i) (a.put o.dst undef) w))
    (hend : ∀ (L : Nat → Bool) (a : Act) (w : World), I L a w → (∀ i, i < ops.size → L i = true) → Q .normal a w)
    (h0 : I (fun _ => false) a { w with drawn := w.drawn + 1 }) : (Code.region id ops true).wp P Q a w := by
  refine wp_region_any hm (wpAny_inv hback I hstep hend _ _ a _ (by simp) ?_ ?_)
  · exact cnt_le _ _
  · have : lis (Array.replicate ops.size false) = fun _ => false := by
      funext i
      simp [lis, Array.getElem?_replicate]
      split <;> rfl
    rw [this]
    exact h0
end
theorem put_eval {a : Act} {d : Nat} {v : Value} (h : d < a.tmps.size) : (a.put (some d) v).eval (.tmp d) = v := by
  simp [Act.put, Act.eval, h]
theorem put_other {a : Act} {d k : Nat} {v : Value} (h : k ≠ d) : (a.put (some d) v).eval (.tmp k) = a.eval (.tmp k) :=
  Act.eval_put (fun d' hd he => by cases hd; cases he; exact h rfl)
theorem put_size {a : Act} {d : Option Nat} {v : Value} : (a.put d v).tmps.size = a.tmps.size := by
  cases d <;> simp [Act.put]
theorem put_defs {a : Act} {d : Option Nat} {v : Value} : (a.put d v).defers = a.defers := by
  cases d <;> rfl
def look (l : List (Nat × Nat)) (i : Nat) : Option Nat := (l.find? (fun p => p.1 == i)).map (·.2)
theorem look_mem {l : List (Nat × Nat)} {i d : Nat} (h : look l i = some d) : (i, d) ∈ l := by
  unfold look at h
  obtain ⟨p, hp, hd⟩ := Option.map_eq_some_iff.1 h
  have h1 := List.find?_some hp
  have h2 := List.mem_of_find?_eq_some hp
  simp at h1
  subst h1; subst hd
  exact h2
theorem notD {b : Bool} (h : b = false) : ¬ b = true := by simp [h]
def pv (ks : List (Nat × Nat)) (vals : Nat → Value) (i : Nat) : Option (Nat × Value) := (look ks i).map (fun d => (d, vals i))
def D (ks : List (Nat × Nat)) (k : Nat) : Prop := (ks.any (fun p => p.2 == k)) = true
structure In (ks : List (Nat × Nat)) (vals : Nat → Value) (WI : World → Prop) (a0 : Act) (L : Nat → Bool) (a : Act) (w : World) : Prop where
  sz : a.tmps.size = a0.tmps.size
  df : a.defers = a0.defers
  fix : ∀ k, ¬ D ks k → a.eval (.tmp k) = a0.eval (.tmp k)
  pure : ∀ i d v, pv ks vals i = some (d, v) → L i = true → a.eval (.tmp d) = v
  world : WI w
abbrev Deps (o : Oper) (L : Nat → Bool) : Prop := ∀ e ∈ o.after, Region.binds .any e = true → L e.on = true
inductive Does (P : Program) (Q : Exit → Act → World → Prop) (ops : Array Oper) (ks : List (Nat × Nat)) (vals : Nat → Value) (WI : World → Prop) (a0 : Act) (i : Nat) (o : Oper) : Prop where
  | run (dst : o.dst = look ks i) (wn : ∀ L a w, In ks vals WI a0 L a w → Deps o L → Region.wanted o (yielded ops a.tmps) = true) (wp : ∀ L a w (K : Act → World → Prop), In ks vals WI a0 L a w → Deps o L → (∀ w' v, (∀ d, o.dst = some d → v = vals i) → WI w' → K (a.put o.dst v) w') → o.wp P a w K Q)
  | skip (dst : o.dst = look ks i) (wn : ∀ L a w, In ks vals WI a0 L a w → Deps o L → Region.wanted o (yielded ops a.tmps) = false) (hv : vals i = undef)
theorem region {P : Program} {id : Nat} {ops : Array Oper} {Q : Exit → Act → World → Prop} {ks : List (Nat × Nat)} {vals : Nat → Value} {WI : World → Prop} {w0 : World} {a0 : Act}
    (hm : P.follows .mixedOrders = true) (hback : ∀ (i : Nat) (o : Oper), ops[i]? = some o → ∀ e ∈ o.after, Region.binds .any e = true → e.on < i)
    (hgood : (ks.all fun p => ks.all fun q => p.1 == q.1 || p.2 != q.2) = true) (hD : ∀ k, D ks k → k < a0.tmps.size) (hW0 : WI { w0 with drawn := w0.drawn + 1 })
    (does : ∀ (i : Nat) (o : Oper), ops[i]? = some o → Does P Q ops ks vals WI a0 i o)
    (fin : ∀ L a w, In ks vals WI a0 L a w → (∀ i, i < ops.size → L i = true) → Q .normal a w) :
    (Code.region id ops true).wp P Q a0 w0 := by
  simp only [List.all_eq_true, bne_iff_ne, Bool.or_eq_true, beq_iff_eq] at hgood
  have pvm : ∀ {i d v}, pv ks vals i = some (d, v) → (i, d) ∈ ks := fun {i d v} h => by
    obtain ⟨d', h1, h2⟩ := Option.map_eq_some_iff.1 h
    cases h2; exact look_mem h1
  refine region_inv hm hback (fun L a w => In ks vals WI a0 L a w) ?step (fun L a w h hall => fin L a w h hall) ?start
  case start => exact ⟨rfl, rfl, fun _ _ => rfl, fun _ _ _ _ h => (by cases h), hW0⟩
  case step =>
    rintro L a w i o h ho hL hd
    have on : ∀ w' v, o.dst = look ks i → (∀ d, o.dst = some d → v = vals i) → WI w' → In ks vals WI a0 (up L i) (a.put o.dst v) w' := fun w' v hdst hv hW => by
      cases hlk : look ks i with
      | none =>
        rw [hdst, hlk]
        refine ⟨h.sz, h.df, h.fix, fun j d' v' hj hLj => h.pure j d' v' hj ?_, hW⟩
        have hji : j ≠ i := fun e => by
          subst e
          obtain ⟨d'', h1, _⟩ := Option.map_eq_some_iff.1 hj
          rw [hlk] at h1; cases h1
        rwa [up_other _ hji] at hLj
      | some d =>
        have hv' := hv d (hdst.trans hlk)
        subst hv'
        rw [hdst, hlk]
        have hm' : (i, d) ∈ ks := look_mem hlk
        have hDd : D ks d := by simp only [D, List.any_eq_true, beq_iff_eq]; exact ⟨_, hm', rfl⟩
        have e : ∀ k : Nat, k ≠ d → (a.put (some d) (vals i)).eval (.tmp k) = a.eval (.tmp k) := fun k hk => put_other hk
        refine ⟨by rw [put_size]; exact h.sz, by rw [put_defs]; exact h.df, fun k hk => ?_, fun j d' v' hj hLj => ?_, hW⟩
        · rw [e k (fun he => hk (he ▸ hDd))]; exact h.fix k hk
        · by_cases hij : j = i
          · subst hij
            rw [pv, hlk] at hj
            cases hj
            exact put_eval (by rw [h.sz]; exact hD _ hDd)
          · rw [up_other _ hij] at hLj
            have : d' ≠ d := by
              rcases hgood _ hm' _ (pvm hj) with e1 | e1
              · exact absurd e1.symm hij
              · exact Ne.symm e1
            rw [e d' this]
            exact h.pure j d' v' hj hLj
    rcases does i o ho with ⟨hdst, hwn, hwp⟩ | ⟨hdst, hwn, hv⟩
    · exact .inl ⟨hwn L a w h hd, hwp L a w _ h hd (fun w' v hv hW => on w' v hdst hv hW)⟩
    · exact .inr ⟨hwn L a w h hd, on w undef hdst (fun _ _ => hv.symm) h.world⟩
section
variable {P : Program} {Q : Exit → Act → World → Prop} {ops : Array Oper} {ks : List (Nat × Nat)} {vals : Nat → Value} {WI : World → Prop} {a0 : Act} {i : Nat} {o : Oper}
theorem wn0 (hg : o.guard = none) {y : Nat → Option Bool} : Region.wanted o y = true := by simp [Region.wanted, hg]
theorem wnG {a : Act} {j d : Nat} {b c q : Bool} (hg : o.guard = some (j, b)) (hd : (ops[j]?).bind (·.dst) = some d) (hv : a.eval (.tmp d) = .bool c) (hq : (c == b) = q) : Region.wanted o (yielded ops a.tmps) = q := by
  have e : a.tmps[d]? = some (.bool c) := by
    cases h : a.tmps[d]? with
    | none => simp [Act.eval, h, undef] at hv
    | some v => simp [Act.eval, h] at hv; rw [hv]
  unfold Region.wanted yielded
  rw [hg]
  simp only [hd, Option.bind_some, e]
  rw [← hq]
  cases b <;> cases c <;> rfl
theorem wp_value {a : Act} {w : World} {K : Act → World → Prop} {v : Value} {w' : World} (h : (execOp a.eval o).run P w = .ok (.value v) w') (hk : K (a.put o.dst v) w') : o.wp P a w K Q := by
  unfold Oper.wp; rw [h]; exact hk
theorem wp_call {a : Act} {w : World} {K : Act → World → Prop} {f : FuncId} {args : Array Value} (hrun : (execOp a.eval o).run P w = .ok (.enter f args) w) (hc : Calls P f args w fun e w' => ∃ v, e = .returned v ∧ K (a.put o.dst v) w') : o.wp P a w K Q := by
  unfold Oper.wp
  rw [hrun, Oper.upon_enter]
  exact hc.mono (fun e w' ⟨v, he, hk⟩ => by subst he; exact hk)
theorem Does.read (hd : o.dst = look ks i) (wn : ∀ L a w, In ks vals WI a0 L a w → Deps o L → Region.wanted o (yielded ops a.tmps) = true) (h : ∀ L a w, In ks vals WI a0 L a w → Deps o L → (execOp a.eval o).run P w = .ok (.value (vals i)) w) : Does P Q ops ks vals WI a0 i o :=
  .run hd wn fun L a w K hI hdep hk => wp_value (h L a w hI hdep) (hk w _ (fun _ _ => rfl) hI.world)
theorem Does.make (hd : o.dst = look ks i) (wn : ∀ L a w, In ks vals WI a0 L a w → Deps o L → Region.wanted o (yielded ops a.tmps) = true) (h : ∀ L a w, In ks vals WI a0 L a w → Deps o L → ∃ w', (execOp a.eval o).run P w = .ok (.value (vals i)) w' ∧ WI w') : Does P Q ops ks vals WI a0 i o :=
  .run hd wn fun L a w K hI hdep hk => by
    obtain ⟨w', h1, h2⟩ := h L a w hI hdep
    exact wp_value h1 (hk w' _ (fun _ _ => rfl) h2)
theorem Does.call {f : FuncId} {args : Array Value} (hd : o.dst = look ks i) (wn : ∀ L a w, In ks vals WI a0 L a w → Deps o L → Region.wanted o (yielded ops a.tmps) = true) (h : ∀ L a w, In ks vals WI a0 L a w → Deps o L → (execOp a.eval o).run P w = .ok (.enter f args) w)
    (hc : ∀ w, WI w → Calls P f args w fun e w' => e = .returned (vals i) ∧ WI w') : Does P Q ops ks vals WI a0 i o :=
  .run hd wn fun L a w K hI hdep hk => wp_call (h L a w hI hdep) ((hc w hI.world).mono (by rintro e w' ⟨rfl, hw⟩; exact ⟨_, rfl, hk _ _ (fun _ _ => rfl) hw⟩))
end
theorem act_eq (a : Act) (l : List Value) (hd : a.defers = []) (hn : a.tmps.size = l.length) (h : ∀ k, k < l.length → a.eval (.tmp k) = l.getD k undef) : a = ⟨l.toArray, []⟩ := by
  obtain ⟨tmps, defers⟩ := a
  simp only at hn hd
  subst hd
  congr 1
  apply Array.ext
  · simp [hn]
  · intro i h1 h2
    have := h i (by omega)
    have h3 : i < l.length := by omega
    simpa [Act.eval, h1, h3] using this
section
variable {ev : Operand → Value} {o : Oper} {w : World}
theorem ex_move {x : Operand} {v : Value} (ho : o.op = .move x) (hx : ev x = v) : (execOp ev o).run Tryz.prog w = .ok (.value v) w := by simp [execOp, ho, hx]
theorem ex_assign {x : Operand} {v : Value} (ho : o.op = .assign x) (hx : ev x = v) : (execOp ev o).run Tryz.prog w = .ok (.value v) w := by simp [execOp, ho, hx]
theorem ex_extract {x : Operand} {vs : Array Value} {i : Nat} {v : Value} (ho : o.op = .extract x i) (hx : ev x = .tuple vs) (hv : vs[i]? = some v) : (execOp ev o).run Tryz.prog w = .ok (.value v) w := by
  simp [execOp, ho, hx, go_sem, hv]
theorem ex_pick {x y z : Operand} {b : Bool} {v : Value} (ho : o.op = .pick x y z) (hx : ev x = .bool b) (hv : (if b = true then ev y else ev z) = v) : (execOp ev o).run Tryz.prog w = .ok (.value v) w := by
  cases b <;> simp at hv <;> simp [execOp, ho, hx, hv, go_sem]
theorem ex_load {x : Operand} {ty : TypeId} {a : Addr} {v : Value} (ho : o.op = .load ty x) (hx : ev x = .pointer (some a)) (hagg : (isAgg ty).run Tryz.prog w = .ok false w) (hc : w.cell? a = some v) : (execOp ev o).run Tryz.prog w = .ok (.value v) w := by
  simp [execOp, ho, hx, Instr.loadAt, Instr.sureAddr, loadVar, Sem.run_bind, hagg, go_sem, hc]
theorem ex_field {x : Operand} {b k q : Nat} {ty : TypeId} (ho : o.op = .fieldAddr ty x k) (hx : ev x = .pointer (some ⟨b, 0, none⟩)) (hf : (Instr.fieldAt ty (.pointer (some ⟨b, 0, none⟩)) k).run Tryz.prog w = .ok (.pointer (some ⟨b, q, none⟩)) w) : (execOp ev o).run Tryz.prog w = .ok (.value (.pointer (some ⟨b, q, none⟩))) w := by
  simp [execOp, ho, hx, hf]
theorem call1 {f : FuncId} {x0 : Operand} {ts : Array TypeId} {v0 : Value} (ho : o.op = Op.call { callee := Callee.value (Operand.func f), args := #[x0], argTypes := ts }) (h0 : ev x0 = v0) (hf : ev (Operand.func f) = .func (.func f) #[] #[]) (hcf : (callFunc f #[v0]).run Tryz.prog w = .ok (.enter f #[v0]) w) :
    (execOp ev o).run Tryz.prog w = .ok (.enter f #[v0]) w := by
  simp [execOp, ho, h0, hf, resolve, invoke, go_sem, hcf]
theorem call2 {f : FuncId} {x0 x1 : Operand} {ts : Array TypeId} {v0 v1 : Value} (ho : o.op = Op.call { callee := Callee.value (Operand.func f), args := #[x0, x1], argTypes := ts }) (h0 : ev x0 = v0) (h1 : ev x1 = v1) (hf : ev (Operand.func f) = .func (.func f) #[] #[]) (hcf : (callFunc f #[v0, v1]).run Tryz.prog w = .ok (.enter f #[v0, v1]) w) :
    (execOp ev o).run Tryz.prog w = .ok (.enter f #[v0, v1]) w := by
  simp [execOp, ho, h0, h1, hf, resolve, invoke, go_sem, hcf]
theorem call3 {f : FuncId} {x0 x1 x2 : Operand} {ts : Array TypeId} {v0 v1 v2 : Value} (ho : o.op = Op.call { callee := Callee.value (Operand.func f), args := #[x0, x1, x2], argTypes := ts }) (h0 : ev x0 = v0) (h1 : ev x1 = v1) (h2 : ev x2 = v2) (hf : ev (Operand.func f) = .func (.func f) #[] #[]) (hcf : (callFunc f #[v0, v1, v2]).run Tryz.prog w = .ok (.enter f #[v0, v1, v2]) w) :
    (execOp ev o).run Tryz.prog w = .ok (.enter f #[v0, v1, v2]) w := by
  simp [execOp, ho, h0, h1, h2, hf, resolve, invoke, go_sem, hcf]
theorem call4 {f : FuncId} {x0 x1 x2 x3 : Operand} {ts : Array TypeId} {v0 v1 v2 v3 : Value} (ho : o.op = Op.call { callee := Callee.value (Operand.func f), args := #[x0, x1, x2, x3], argTypes := ts }) (h0 : ev x0 = v0) (h1 : ev x1 = v1) (h2 : ev x2 = v2) (h3 : ev x3 = v3) (hf : ev (Operand.func f) = .func (.func f) #[] #[]) (hcf : (callFunc f #[v0, v1, v2, v3]).run Tryz.prog w = .ok (.enter f #[v0, v1, v2, v3]) w) :
    (execOp ev o).run Tryz.prog w = .ok (.enter f #[v0, v1, v2, v3]) w := by
  simp [execOp, ho, h0, h1, h2, h3, hf, resolve, invoke, go_sem, hcf]
theorem isRow_of {ty : TypeId} (h : (Tryz.prog.underlying ty).map (fun d => d.isRow) = some true) : ∃ d, Tryz.prog.underlying ty = some d ∧ d.isRow = true := Option.map_eq_some_iff.1 h
theorem ex_load_row {x : Operand} {ty : TypeId} {b off : Nat} {cs : List Value} (ho : o.op = .load ty x) (hx : ev x = .pointer (some ⟨b, off, none⟩)) (hc : w.rangeAt b off cs) (hu : (Tryz.prog.underlying ty).map (fun d => d.isRow) = some true) (hi : (Tryz.prog.info? ty).map (·.size) = some cs.length) :
    (execOp ev o).run Tryz.prog w = .ok (.value (.agg cs.toArray)) w := by
  obtain ⟨d, h1, h2⟩ := isRow_of hu
  simp [execOp, ho, hx, run_loadAt_mid w b off ty cs d hc h1 h2 hi]
end
end Lt
end
section
namespace Shape
theorem rng {w' : World} {b : Nat} {v0 v1 v2 v3 v4 v5 : Value} (y0 : w'.cell? ⟨b, 0, none⟩ = some v0) (y1 : w'.cell? ⟨b, 1, none⟩ = some v1) (y2 : w'.cell? ⟨b, 2, none⟩ = some v2) (y3 : w'.cell? ⟨b, 3, none⟩ = some v3) (y4 : w'.cell? ⟨b, 4, none⟩ = some v4) (y5 : w'.cell? ⟨b, 5, none⟩ = some v5) : w'.rangeAt b 0 [v0, v1, v2, v3, v4, v5] := by
  intro j v hv
  match j, hv with
  | 0, hv => cases hv; simpa using y0
  | 1, hv => cases hv; simpa using y1
  | 2, hv => cases hv; simpa using y2
  | 3, hv => cases hv; simpa using y3
  | 4, hv => cases hv; simpa using y4
  | 5, hv => cases hv; simpa using y5
end Shape
end
section
namespace Shape
def F (x : Sh) : Nat → Nat → Int
  | 0 => putF (fun _ => 0) 1 1
  | m + 1 => putF (F x m) (bO x + m * ow x + 1) ((m : Int) + 2)
theorem F_free {x : Sh} (hx : 8 ≤ bO x) : ∀ m, F x m 1 = 1
  | 0 => by simp [F, putF]
  | m + 1 => by
    unfold F putF
    rw [if_neg (by omega)]
    exact F_free hx m
theorem bO8 (x : Sh) : 8 ≤ bO x := by unfold bO bK bR; omega
theorem ow3 (x : Sh) : 3 ≤ ow x := by unfold ow; omega
theorem at_lt {x : Sh} {i j : Nat} (h : i < j) : i * ow x + 3 ≤ j * ow x := by
  have : (i + 1) * ow x ≤ j * ow x := Nat.mul_le_mul_right _ h
  rw [Nat.add_mul] at this
  have := ow3 x
  omega
theorem F_link {x : Sh} : ∀ m i, F x m (bO x + i * ow x + 1) = if i < m then (i : Int) + 2 else 0
  | 0, i => by
    have := bO8 x
    unfold F putF
    rw [if_neg (by omega), if_neg (by omega)]
  | m + 1, i => by
    unfold F putF
    by_cases e : i = m
    · subst e; rw [if_pos rfl, if_pos (by omega)]
    · rw [if_neg ?_, F_link m i]
      · by_cases h : i < m
        · rw [if_pos h, if_pos (by omega)]
        · rw [if_neg h, if_neg (by omega)]
      · intro h
        rcases Nat.lt_or_gt_of_ne e with l | l
        · have := at_lt (x := x) l; omega
        · have := at_lt (x := x) l; omega
theorem run_make_z {P : Program} (t e : TypeId) (zc : Array Value) (size bytes : Nat) (ht : P.underlying t = some (.slice e)) (hinfo : (P.info? e).map (fun i => (i.zero.map Value.cells, i.size, i.bytes)) = some (some zc, size, bytes))
    (n : Nat) (hbytes : bytes * n ≤ 281474976710656) (h63 : n ≤ 9223372036854775807) (w : World) :
    (Instr.makeSlice t (.int .i64 (n : Int)) (.int .i64 (n : Int))).run P w = .ok (.slice (some ⟨w.heap.size, 0, none⟩) n n) (w.alloc (.cells (madeCells zc (n * size)) e)) := by
  obtain ⟨i, hi, hzz⟩ := Option.map_eq_some_iff.1 hinfo
  simp only [Prod.mk.injEq] at hzz
  obtain ⟨hz, hs, hb⟩ := hzz
  obtain ⟨z, hz, hzc⟩ := Option.map_eq_some_iff.1 hz
  have hbi : (i.bytes : Int) * (n : Int) ≤ 281474976710656 := by
    rw [hb]
    have h : ((bytes * n : Nat) : Int) ≤ 281474976710656 := by omega
    rwa [Int.natCast_mul] at h
  have hr := run_make (P := P) w t e i z ht hi hz .i64 .i64 n n (by omega) (Int.le_refl _) hbi (by omega)
  simpa [hs, hzc] using hr
theorem tagged_one (w : World) : Calls Tryz.prog 15 #[.int .i64 1, .int .u64 0] w fun e w' => e = .returned (.int .u64 1) ∧ w' = w := by
  go_enter Tryz.func15, Tryz.ntmps15
  go_wp2
  go_ret
  exact ⟨by rfl, rfl⟩
theorem mk_row (w : World) (n : Nat) (hn : n ≤ 600) : IsRow (w.alloc (.cells (madeCells #[.int .u64 0] n) 38)) w.heap.size n n (fun _ => 0) := by
  refine ⟨Nat.le_refl _, by unfold maxLen; omega, ⟨fun _ => .int .u64 0, ?_, fun _ _ => rfl⟩, fun _ _ => ⟨Int.le_refl 0, by show (0 : Int) ≤ 18446744073709551615; decide⟩⟩
  exact World.rowIs_made w (.int .u64 0) n 38
theorem fresh_bad {s0 s1 s2 s3 s4 s5 : Int} (H : ¬ R5 s0 s1 s2 s3 s4) (w : World) : Calls Tryz.prog 8 #[.agg #[.int .i64 s0, .int .i64 s1, .int .i64 s2, .int .i64 s3, .int .i64 s4, .int .i64 s5]] w fun e w' => e = .returned (.tuple #[.slice none 0 0, .int .i64 120]) ∧ Below w.heap.size w w' := by
  have HH := hide H
  clear H
  obtain ⟨W0, hW0, B0, K⟩ := box w s0 s1 s2 s3 s4 s5
  have HB := hide B0
  obtain ⟨-, l0, x0, x1, x2, x3, x4, x5⟩ := K.out W0 (Below.refl _ _)
  clear B0
  go_enter Tryz.func8, Tryz.ntmps8
  go_wp2_with (go_at_call 14; refine (size_bad HH.out _).mono ?_; rintro e w1 ⟨rfl, hb1⟩; have HB1 := hide hb1; clear hb1; obtain ⟨-, m1, y0, y1, y2, y3, y4, y5⟩ := K.out w1 HB1.out)
  go_ret2
  exact ⟨rfl, (K.out _ HB1.out).1⟩
theorem fresh_ok {o s h r k : Nat} {s5 : Int} (H : (⟨o, s, h, r, k⟩ : Sh).Ok) (w : World) : Calls Tryz.prog 8 #[.agg #[.int .i64 (o : Int), .int .i64 (s : Int), .int .i64 (h : Int), .int .i64 (r : Int), .int .i64 (k : Int), .int .i64 s5]] w fun e w' => ∃ g, e = .returned (.tuple #[.slice (some ⟨g, 0, none⟩) (size ⟨o, s, h, r, k⟩) (size ⟨o, s, h, r, k⟩), .int .i64 0]) ∧ IsRow w' g (size ⟨o, s, h, r, k⟩) (size ⟨o, s, h, r, k⟩) (F ⟨o, s, h, r, k⟩ (o - 1)) ∧ w.heap.size ≤ g ∧ Below w.heap.size w w' := by
  obtain ⟨b1, b2, b3, b4, b5, b6, b7, b8, b9, b10⟩ := bnds H
  have SZ := hide (fun w1 => size_ok (s5 := s5) H w1)
  have z600 := (sizes H).2.2.2.2
  obtain ⟨z, hz⟩ : ∃ z, size ⟨o, s, h, r, k⟩ = z := ⟨_, rfl⟩
  have ATZ := hide (show ∀ m, m + 1 < o → bO ⟨o, s, h, r, k⟩ + m * ow ⟨o, s, h, r, k⟩ + 1 < z from fun m hm => by
    have := at_lt (x := ⟨o, s, h, r, k⟩) (show m < o by omega)
    rw [← hz]; unfold size; simp only; omega)
  have hz8 : 8 < z := by rw [← hz]; have := bO8 ⟨o, s, h, r, k⟩; have := (sizes H).2.2.2.1; unfold size; omega
  have HOK := hide H
  rw [hz] at SZ z600
  rw [hz]
  have hmk := run_make_z (P := Tryz.prog) 24 38 _ 1 8 Tryz.underlying24 info46 z (by omega) (by omega)
  simp only [Nat.mul_one] at hmk
  have OA := hide (fun (m : Nat) (hm : m + 1 < o) (w1 : World) => show Calls Tryz.prog 13 #[.agg #[.int .i64 (o : Int), .int .i64 (s : Int), .int .i64 (h : Int), .int .i64 (r : Int), .int .i64 (k : Int), .int .i64 s5], .int .i64 ((m : Int) + 1)] w1 fun e w' => e = .returned (.int .i64 ((bO ⟨o, s, h, r, k⟩ + m * ow ⟨o, s, h, r, k⟩ : Nat) : Int)) ∧ Below w1.heap.size w1 w' from by
    have hq : m * (3 + s) ≤ 448 := Nat.le_trans (Nat.mul_le_mul_right _ (by omega)) b7
    have := objectAt_any (o := o) (s := s) (h := h) (r := r) (k := k) (s5 := s5) (i := m + 1) (q := m * (3 + s)) b3 b2 b5 rfl b6 (by omega) (by omega) (by simp) hq w1
    rw [show ((bO ⟨o, s, h, r, k⟩ + m * ow ⟨o, s, h, r, k⟩ : Nat) : Int) = 8 + (h : Int) + ((h * r : Nat) : Int) + (k : Int) + ((m * (3 + s) : Nat) : Int) from by simp only [bO, bK, bR, ow]; omega]
    rw [show ((m : Int) + 1) = ((m + 1 : Nat) : Int) by omega]; exact this)
  clear H hz b6 b7
  obtain ⟨W0, hW0, B0, K⟩ := box w (o : Int) (s : Int) (h : Int) (r : Int) (k : Int) s5
  have HB := hide B0
  obtain ⟨-, l0, x0, x1, x2, x3, x4, x5⟩ := K.out W0 (Below.refl _ _)
  clear B0
  go_enter Tryz.func8, Tryz.ntmps8
  go_wp2_with (first | (go_at_call 14; refine (SZ.out _).mono ?_; rintro e w1 ⟨rfl, hb1⟩; have HB1 := hide hb1; clear hb1; obtain ⟨-, m1, y0, y1, y2, y3, y4, y5⟩ := K.out w1 HB1.out; have R1 := hide (mk_row w1 z z600); have c1 : (w1.alloc (.cells (madeCells #[.int .u64 0] z) 38)).cell? ⟨w1.heap.size, 1, none⟩ = some (.int .u64 0) := R1.out.cell (by omega); have fz1 := R1.out.frozen 1) | (go_at_call 15; refine (tagged_one _).mono ?_; rintro e wq ⟨rfl, hwq⟩; obtain rfl := hwq.symm))
  go_loopw [7] (fun v wr => ∃ m : Nat, m + 1 ≤ o ∧ v = .int .i64 ((m + 1 : Nat) : Int) ∧ Hid (IsRow wr w1.heap.size z z (F ⟨o, s, h, r, k⟩ m)) ∧ Hid (Below w1.heap.size w1 wr)) (fun v _ => o - (intOf v).toNat)
  case atStart =>
    have e0 := R1.out.set 1 1 ⟨by decide, by decide⟩
    have e1 : (w1.alloc (.cells (madeCells #[.int .u64 0] z) 38)).setCell ⟨w1.heap.size, 1, none⟩ (.int .u64 1) = w1.alloc (.cells ((madeCells #[.int .u64 0] z).setIfInBounds 1 (.int .u64 1)) 38) := World.setCell_alloc_at _ _ _ _ _ rfl
    rw [e1] at e0
    exact ⟨0, by omega, rfl, e0, (Below.refl _ w1).alloc (Nat.le_refl _) _⟩
  case round =>
    obtain ⟨m, hm, rfl, HR, HW⟩ := hrel
    have HBr := hide (HB1.out.trans (HW.out.mono HB1.out.size))
    obtain ⟨-, n1, u0, u1, u2, u3, u4, u5⟩ := K.out wr HBr.out
    have eo : ((m + 1 : Nat) : Int) = (m : Int) + 1 := by omega
    rw [eo]
    by_cases hlt : m + 1 < o
    · have hlt' : (m : Int) + 1 < (o : Int) := by omega
      have hat := ATZ.out m hlt
      have OB := hide (fun w2 => OA.out m hlt w2)
      obtain ⟨p, hp⟩ : ∃ p, bO ⟨o, s, h, r, k⟩ + m * ow ⟨o, s, h, r, k⟩ = p := ⟨_, rfl⟩
      rw [hp] at OB hat
      have hat' : (p : Int) + 1 < (z : Int) := by omega
      have wu : IntKind.u64.wrap ((m : Int) + 1 + 1) = (m : Int) + 2 := by rw [IntKind.wrap_u64]; omega
      have wu2 : IntKind.u64.wrap ((m : Int) + 2) = (m : Int) + 2 := by rw [IntKind.wrap_u64]; omega
      clear y0 y1 y2 y3 y4 y5 c1 fz1 hmk
      go_wp2_with (go_at_call 13; refine (OB.out _).mono ?_; rintro e w2 ⟨rfl, hb2⟩; have HB2 := hide hb2; have R2 := hide (HR.out.below hb2); have c2 : w2.cell? ⟨w1.heap.size, p + 1, none⟩ = some (.int .u64 (F ⟨o, s, h, r, k⟩ m (p + 1))) := R2.out.cell (by omega); have fz2 := R2.out.frozen (p + 1); have lg := R2.out.lt; clear hb2)
      go_roundw
      case rel =>
        refine ⟨m + 1, by omega, by go_num, ?_, ?_⟩
        · have e : F ⟨o, s, h, r, k⟩ (m + 1) = putF (F ⟨o, s, h, r, k⟩ m) (p + 1) ((m : Int) + 2) := by rw [← hp]; rfl
          rw [e]
          exact R2.out.set (p + 1) ((m : Int) + 2) ⟨by omega, by omega⟩
        · exact (HW.out.trans (HB2.out.mono HW.out.size)).setCell (Nat.le_refl _) _
      case measure => simp [intOf]; omega
    · have hlt' : ¬ ((m : Int) + 1 < (o : Int)) := by omega
      have em : m = o - 1 := by omega
      clear y0 y1 y2 y3 y4 y5 c1 fz1 hmk
      go_wp2_with fail
      go_ret2
      exact ⟨w1.heap.size, rfl, by rw [← em]; exact HR.out, (K.out _ HB1.out).1.size, (K.out _ HBr.out).1⟩
end Shape
end
section
namespace Rom
open PKept
structure TL (w : World) (T B n : Nat) (F : Nat → Value) (L : Nat → List Int) : Prop where
  row : w.rowIs T 24 n F
  own : ∀ i, i < n → w.ownsRow B 38 1 (F i) (L i).length (wc (L i))
  ne : ∀ i j, i < n → j < n → i ≠ j → (F i).ownBlock = none ∨ (F i).ownBlock ≠ (F j).ownBlock
  tb : T < B
  bs : B ≤ w.heap.size
section
variable {w w' w1 : World} {T B n : Nat} {F : Nat → Value} {L : Nat → List Int}
theorem TL.keep (h : TL w T B n F L) (hb : Below w.heap.size w w') : TL w' T B n F L :=
  ⟨h.row.of_block (hb.block T h.row.lt), fun i hi => owns_keep (h.own i hi) (fun b _ hl => hb.block b hl), h.ne, h.tb, Nat.le_trans h.bs hb.size⟩
theorem TL.shape (h : TL w T B n F L) {i : Nat} (hi : i < n) : ∃ ao cp, F i = .slice ao (L i).length cp := own_slice (h.own i hi)
theorem TL.see (h : TL w T B n F L) {i k : Nat} (hi : i < n) {ao : Option Addr} {cp : Nat} (e : F i = .slice ao (L i).length cp) (hk : k < (L i).length) : ∃ g x, ao = some ⟨g, 0, none⟩ ∧ g < w.heap.size ∧ w.cell? ⟨g, 0 + k, none⟩ = some (.int .u64 x) ∧ (L i)[k]? = some x := by
  have ho := h.own i hi
  rw [e] at ho
  have hx : (L i)[k]? = some (L i)[k] := List.getElem?_eq_getElem hk
  have hl := ho.1
  obtain ⟨g, cap, F', e1, hb, R, hp, hc, _⟩ := row_of_owns ho (by omega)
  cases e1
  refine ⟨g, (L i)[k], rfl, R.lt, ?_, hx⟩
  rw [Nat.zero_add, R.cell (i := k) (by omega)]
  exact congrArg some (hp k _ (wc_get hx))
theorem TL.app (h : TL w T B n F L) {i : Nat} (hi : i < n) {x : Int} {v' : Value} (own : w1.ownsRow B 38 1 v' ((L i).length + 1) (wc (L i) ++ [.int .u64 x])) (gr : w.grownBy w1 (F i).ownBlock) (hd : v'.ownBlock = (F i).ownBlock ∨ v'.ownBlock = some w.heap.size) :
    TL (w1.setCell ⟨T, i, none⟩ v') T B n (fun j => if j = i then v' else F j) (fun j => if j = i then L i ++ [x] else L j) where
  row := (h.row.of_block (gr.block T h.row.lt (fun e => by have := ((h.own i hi).lt T e.symm).1; have := h.tb; omega))).set i v'
  own := fun j hj => by
    by_cases e : j = i
    · subst e
      simp only [if_pos]
      rw [wc_more, List.length_append]
      exact ownsRow_setCell_below own h.tb _
    · simp only [if_neg e]
      exact ownsRow_setCell_below ((h.own j hj).kept gr (h.ne j i hj hi e)) h.tb _
  ne := fun j k hj hk hjk => by
    have lt : ∀ q, q < n → (F q).ownBlock ≠ some w.heap.size := fun q hq e => by
      have := ((h.own q hq).lt _ e).2
      omega
    by_cases e : j = i
    · subst e
      have hk' : ¬ k = j := fun e => hjk e.symm
      simp only [if_pos, if_neg hk']
      rcases hd with hd | hd
      · rw [hd]; exact h.ne j k hj hk hjk
      · right; rw [hd]; exact fun e => lt k hk e.symm
    · by_cases e2 : k = i
      · subst e2
        simp only [if_pos, if_neg e]
        rcases hd with hd | hd
        · rw [hd]; exact h.ne j k hj hk hjk
        · right; rw [hd]; exact lt j hj
      · simp only [if_neg e, if_neg e2]; exact h.ne j k hj hk hjk
  tb := h.tb
  bs := by
    have := gr.size
    have := h.bs
    simp only [World.size_setCell]
    omega
theorem TL.made (w : World) (n : Nat) : TL (w.alloc (.cells (madeCells #[.slice none 0 0] n) 24)) w.heap.size (w.heap.size + 1) n (fun _ => .slice none 0 0) (fun _ => []) where
  row := World.rowIs_made w (.slice none 0 0) n 24
  own := fun i _ => ⟨rfl, .inl ⟨rfl, rfl⟩⟩
  ne := fun i j _ _ _ => .inl rfl
  tb := Nat.lt_succ_self _
  bs := by simp
end
end Rom
end
section
theorem wrapU (n : Int) : IntKind.u64.wrap n = n % 18446744073709551616 := IntKind.wrap_u64 n
theorem and_low (x : Int) (h0 : 0 ≤ x) (h1 : x < 18446744073709551616) : bits .and .u64 x 4294967295 = x % 4294967296 := by
  rw [u64_and x 4294967295 h0 h1 (by omega) (by omega)]
  have e : x.toNat &&& (4294967295 : Int).toNat = x.toNat % 4294967296 := Nat.and_two_pow_sub_one_eq_mod x.toNat 32
  rw [e]; omega
theorem or_join (i : Nat) (a b : Int) (ha0 : 0 ≤ a) (ha1 : a.toNat < 2 ^ i) (ha2 : a < 18446744073709551616) (hb0 : 0 ≤ b) (hb1 : b.toNat % 2 ^ i = 0) (hb2 : b < 18446744073709551616) : bits .or .u64 a b = a + b := by
  rw [u64_or a b ha0 ha2 hb0 hb2, Nat.or_comm, nat_join i b.toNat a.toNat hb1 ha1]
  omega
theorem or32 (a b : Int) (ha0 : 0 ≤ a) (ha1 : a < 4294967296) (hb0 : 0 ≤ b) (hb1 : b % 4294967296 = 0) (hb2 : b < 18446744073709551616) : bits .or .u64 a b = a + b :=
  or_join 32 a b ha0 (by omega) (by omega) hb0 (by omega) hb2
theorem or8 (a b : Int) (ha0 : 0 ≤ a) (ha1 : a < 256) (hb0 : 0 ≤ b) (hb1 : b % 256 = 0) (hb2 : b < 18446744073709551616) : bits .or .u64 a b = a + b :=
  or_join 8 a b ha0 (by omega) (by omega) hb0 (by omega) hb2
theorem or3 (a b : Int) (ha0 : 0 ≤ a) (ha1 : a < 8) (hb0 : 0 ≤ b) (hb1 : b % 8 = 0) (hb2 : b < 18446744073709551616) : bits .or .u64 a b = a + b :=
  or_join 3 a b ha0 (by omega) (by omega) hb0 (by omega) hb2
theorem or2 (a b : Int) (ha0 : 0 ≤ a) (ha1 : a < 4) (hb0 : 0 ≤ b) (hb1 : b % 4 = 0) (hb2 : b < 18446744073709551616) : bits .or .u64 a b = a + b :=
  or_join 2 a b ha0 (by omega) (by omega) hb0 (by omega) hb2
theorem or1 (a b : Int) (ha0 : 0 ≤ a) (ha1 : a < 2) (hb0 : 0 ≤ b) (hb1 : b % 2 = 0) (hb2 : b < 18446744073709551616) : bits .or .u64 a b = a + b :=
  or_join 1 a b ha0 (by omega) (by omega) hb0 (by omega) hb2
def hd (i g : Int) : Int := i % 4294967296 + g % 4294967296 * 4294967296
theorem hd_lo (i g : Int) : 0 ≤ hd i g := by unfold hd; omega
theorem hd_hi (i g : Int) : hd i g < 18446744073709551616 := by unfold hd; omega
theorem join_eq (i g : Int) : bits .or .u64 (bits .and .u64 (IntKind.u64.wrap i) 4294967295) (IntKind.u64.wrap (g * 4294967296)) = hd i g := by
  rw [wrapU, wrapU, and_low _ (by omega) (by omega), or32 _ _ (by omega) (by omega) (by omega) (by omega) (by omega)]
  unfold hd; omega
def bit (b : Bool) (v : Int) : Int := if b then v else 0
theorem ret_int {k : IntKind} {a b : Int} (h : a = b) : Ending.returned (.int k a) = .returned (.int k b) := by rw [h]
theorem ret_bool {a b : Bool} (h : a = b) : Ending.returned (.bool a) = .returned (.bool b) := by rw [h]
theorem join_any (i g : Int) (w : World) :
    Calls Tryz.prog 21 #[.int .i64 i, .int .u64 g] w fun e w' => e = .returned (.int .u64 (hd i g)) ∧ w' = w := by
  go_enter Tryz.func21, Tryz.ntmps21
  go_wp2
  go_ret
  exact ⟨ret_int (join_eq i g), rfl⟩
theorem tagged_any (i g : Int) (w : World) :
    Calls Tryz.prog 15 #[.int .i64 i, .int .u64 g] w fun e w' => e = .returned (.int .u64 (hd i g)) ∧ w' = w := by
  go_enter Tryz.func15, Tryz.ntmps15
  go_wp2_with (go_at_call 21; refine (join_any _ _ _).mono ?_; rintro e w' ⟨rfl, rfl⟩)
  go_ret
  exact ⟨rfl, rfl⟩
theorem wrap64_low (h : Int) (h0 : 0 ≤ h) (h1 : h < 18446744073709551616) : wrap64 (bits .and .u64 h 4294967295) = h % 4294967296 := by
  rw [and_low h h0 h1]; unfold wrap64; omega
theorem index_any (h : Int) (h0 : 0 ≤ h) (h1 : h < 18446744073709551616) (w : World) :
    Calls Tryz.prog 75 #[.int .u64 h] w fun e w' => e = .returned (.int .i64 (h % 4294967296)) ∧ w' = w := by
  go_enter Tryz.func75, Tryz.ntmps75
  go_wp2
  go_ret
  exact ⟨ret_int (wrap64_low h h0 h1), rfl⟩
theorem gen_any (h : Int) (h0 : 0 ≤ h) (h1 : h < 18446744073709551616) (w : World) :
    Calls Tryz.prog 69 #[.int .u64 h] w fun e w' => e = .returned (.int .u64 (h / 4294967296)) ∧ w' = w := by
  go_enter Tryz.func69, Tryz.ntmps69
  go_wp2
  go_ret
  exact ⟨rfl, rfl⟩
theorem isColour_any (c : Int) (w : World) :
    Calls Tryz.prog 95 #[.int .i64 c] w fun e w' => e = .returned (.bool (c == 0 || c == 1)) ∧ w' = w := by
  by_cases hc : c = 0
  · subst hc
    go_enter Tryz.func95, Tryz.ntmps95
    go_wp2
    go_ret
    exact ⟨rfl, rfl⟩
  · have hb : (c == 0) = false := beq_eq_false_iff_ne.2 hc
    go_enter Tryz.func95, Tryz.ntmps95
    go_wp2
    go_ret
    exact ⟨ret_bool (by simp [hb]), rfl⟩
theorem bitIf_any (b : Bool) (v : Int) (w : World) :
    Calls Tryz.prog 96 #[.bool b, .int .u64 v] w fun e w' => e = .returned (.int .u64 (bit b v)) ∧ w' = w := by
  cases b
  · go_enter Tryz.func96, Tryz.ntmps96
    go_wp2
    go_ret
    exact ⟨rfl, rfl⟩
  · go_enter Tryz.func96, Tryz.ntmps96
    go_wp2
    go_ret
    exact ⟨rfl, rfl⟩
def hasB (x v : Int) : Bool := x / v % 2 == 1
def numB (x v : Int) : Int := x / v % 2
theorem ret_two {k l : IntKind} {a b c d : Int} (h : a = b) (h' : c = d) : Ending.returned (.tuple #[.int k a, .int l c]) = .returned (.tuple #[.int k b, .int l d]) := by rw [h, h']
def packOk (age gen c : Int) : Prop := (c = 0 ∨ c = 1) ∧ 0 ≤ age ∧ age ≤ 255 ∧ gen ≤ 4294967295
def ownB (live : Bool) (c : Int) : Bool := if live then c == 1 else !(c == 1)
def packW (used own final taken : Bool) (age gen : Int) : Int := bit used 1 + bit own 2 + bit final 4 + bit taken 8 + age * 256 + gen * 4294967296
theorem or_bits (u o f t : Bool) : bits .or .u64 (bits .or .u64 (bits .or .u64 (bit u 1) (bit o 2)) (bit f 4)) (bit t 8) = bit u 1 + bit o 2 + bit f 4 + bit t 8 := by
  rw [or1 (bit u 1) (bit o 2) (by cases u <;> simp [bit]) (by cases u <;> simp [bit]) (by cases o <;> simp [bit]) (by cases o <;> simp [bit]) (by cases o <;> simp [bit])]
  rw [or2 _ (bit f 4) (by cases u <;> cases o <;> simp [bit]) (by cases u <;> cases o <;> simp [bit]) (by cases f <;> simp [bit]) (by cases f <;> simp [bit]) (by cases f <;> simp [bit])]
  rw [or3 _ (bit t 8) (by cases u <;> cases o <;> cases f <;> simp [bit]) (by cases u <;> cases o <;> cases f <;> simp [bit]) (by cases t <;> simp [bit]) (by cases t <;> simp [bit]) (by cases t <;> simp [bit])]
theorem bits_lt (u o f t : Bool) : 0 ≤ bit u 1 + bit o 2 + bit f 4 + bit t 8 ∧ bit u 1 + bit o 2 + bit f 4 + bit t 8 < 16 := by
  cases u <;> cases o <;> cases f <;> cases t <;> simp [bit]
theorem pack_eq (u o f t : Bool) (age gen : Int) (ha0 : 0 ≤ age) (ha1 : age ≤ 255) (hg0 : 0 ≤ gen) (hg1 : gen ≤ 4294967295) :
    bits .or .u64 (bits .or .u64 (bits .or .u64 (bits .or .u64 (bits .or .u64 (bit u 1) (bit o 2)) (bit f 4)) (bit t 8)) (age * 256)) (gen * 4294967296) = packW u o f t age gen := by
  have hb := bits_lt u o f t
  rw [or_bits, or8 _ (age * 256) (by omega) (by omega) (by omega) (by omega) (by omega), or32 _ (gen * 4294967296) (by omega) (by omega) (by omega) (by omega) (by omega)]
  rfl
theorem below_box (w : World) (o : Obj) (n : Nat) : Below w.heap.size w ((w.alloc o).drewN n) := below_drewN ((Below.refl _ _).alloc (Nat.le_refl _) _) n
def packB (age gen c : Int) : Bool := (c == 0 || c == 1) && decide (0 ≤ age) && decide (age ≤ 255) && decide (gen ≤ 4294967295)
def packV (used live final taken : Bool) (age gen c : Int) : Int := if packB age gen c then packW used (ownB live c) final taken age gen else 0
def packE (age gen c : Int) : Int := if packB age gen c then 0 else 10
def momB (p c r : Int) : Bool := decide (0 ≤ p) && decide (p ≤ 4) && (c == 0 || c == 1) && decide (r < 72057594037927936)
def momV (p c r : Int) : Int := if momB p c r then p + c * 8 + r * 256 else 0
def momE (p c r : Int) : Int := if momB p c r then 0 else 10
def obj (used live final taken : Bool) (age gen link next : Int) : Value :=
  .agg #[.bool used, .bool live, .bool final, .bool taken, .int .i64 age, .int .u64 gen, .int .u64 link, .int .u64 next, .slice none 0 0]
end
section
theorem bump_any (t i : Int) (h0 : 0 ≤ t) (h1 : t < 18446744073709551616) (w : World) :
    Calls Tryz.prog 101 #[.int .u64 t, .int .i64 i] w fun e w' => e = .returned (.int .u64 (hd i (t / 4294967296 + 1))) ∧ w' = w := by
  go_enter Tryz.func101, Tryz.ntmps101
  go_wp2_with (first | (go_at_call 69; refine (gen_any _ h0 h1 _).mono ?_; rintro e w' ⟨rfl, rfl⟩) | (go_at_call 15; refine (tagged_any _ _ _).mono ?_; rintro e w' ⟨rfl, rfl⟩))
  go_ret
  exact ⟨rfl, rfl⟩
def whiteB (x g c : Int) : Bool := hasB x 1 && (x / 4294967296 == g) && (numB x 2 != c)
end
end Go.Proofs.YtidihnnmdmlgfaaGreat
