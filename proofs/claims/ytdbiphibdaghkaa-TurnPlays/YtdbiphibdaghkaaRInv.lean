/-
  A region that draws its order, by an invariant over what has been done so far: whatever the order, one case an operation.
-/
import Derived.Test.YtdbiphibdaghkaaOwn
import Derived.Test.YtdbiphibdaghkaaSpec
import Derived.Orders
namespace Go.Proofs.Ytdbiphibdaghkaa
open Go.RowKit
set_option linter.unusedVariables false
set_option linter.unusedSimpArgs false

theorem cnt_upd {L : Nat → Bool} {i : Nat} (hi : L i = false) : ∀ n, cnt (fun j => !(upd L i true) j) n + (if i < n then 1 else 0) = cnt (fun j => !L j) n
  | 0 => by simp [cnt]
  | n + 1 => by
    have ih := cnt_upd hi n
    simp only [cnt]
    by_cases h : n = i
    · subst h
      simp only [upd_same, Nat.lt_irrefl, if_false, Nat.add_zero] at ih ⊢
      simp [hi, ih]
    · have hu : upd L i true n = L n := upd_other _ _ h
      have : (i < n + 1) = (i < n) := by apply propext; omega
      simp only [this, hu]
      omega

/-- What has been listed, as a function. -/
def lis (listed : Array Bool) : Nat → Bool := fun i => listed.getD i false

theorem lis_set {listed : Array Bool} {i : Nat} (hi : i < listed.size) : lis (listed.setIfInBounds i true) = upd (lis listed) i true := by
  funext j
  by_cases h : j = i
  · subst h; simp [lis, hi]
  · rw [upd_other _ _ h]
    simp [lis, Array.getElem?_setIfInBounds_ne (Ne.symm h)]

section
variable {P : Program} {ops : Array Oper} {Q : Exit → Act → World → Prop} {md : Region.Mode}

theorem wpAny_inv (hg : ∀ (i : Nat) (o : Oper), ops[i]? = some o → o.guard = none) (hback : ∀ (i : Nat) (o : Oper), ops[i]? = some o → ∀ e ∈ o.after, Region.binds md e = true → e.on < i) (I : (Nat → Bool) → Act → World → Prop)
    (hstep : ∀ (L : Nat → Bool) (a : Act) (w : World) (i : Nat) (o : Oper), I L a w → ops[i]? = some o → L i = false → (∀ e ∈ o.after, Region.binds md e = true → L e.on = true) → o.wp P a w (fun a' w' => I (upd L i true) a' w') Q)
    (hend : ∀ (L : Nat → Bool) (a : Act) (w : World), I L a w → (∀ i, i < ops.size → L i = true) → Q .normal a w) :
    ∀ fuel listed a w, listed.size = ops.size → cnt (fun i => !(lis listed) i) ops.size ≤ fuel → I (lis listed) a w → wpAny P md ops Q fuel listed a w := by
  have none_ready : ∀ listed : Array Bool, listed.size = ops.size → Region.ready md ops listed = [] → ∀ i, i < ops.size → lis listed i = true := by
    intro listed hsz hr i
    induction i using Nat.strongRecOn with
    | ind i ih =>
      intro hi
      cases hl : lis listed i with
      | true => rfl
      | false =>
        exfalso
        have hm : i ∈ Region.ready md ops listed := by
          rw [mem_ready]
          refine ⟨?_, ops[i], by simp [hi], fun e he hb => ?_⟩
          · have hlt : i < listed.size := by omega
            simp only [lis] at hl
            simpa [hlt] using hl
          · have hlt := hback i ops[i] (by simp [hi]) e he hb
            exact ih e.on hlt (by omega)
        rw [hr] at hm
        cases hm
  intro fuel
  induction fuel with
  | zero =>
    intro listed a w hsz hc hI
    have hall : ∀ i, i < ops.size → lis listed i = true := fun i hi => by
      have := cnt_zero (g := fun i => !(lis listed) i) (n := ops.size) (by omega) i hi
      simpa using this
    refine ⟨?_, hend _ a w hI hall⟩
    cases hr : Region.ready md ops listed with
    | nil => rfl
    | cons x xs =>
      exfalso
      have hx : x ∈ Region.ready md ops listed := by rw [hr]; simp
      rw [mem_ready] at hx
      obtain ⟨h0, o, ho, _⟩ := hx
      have hlt : x < ops.size := (Array.getElem?_eq_some_iff.1 ho).1
      have := hall x hlt
      have hlt' : x < listed.size := by omega
      simp [lis, hlt'] at this
      simp [hlt'] at h0
      rw [h0] at this
      cases this
  | succ fuel ih =>
    intro listed a w hsz hc hI
    refine ⟨fun hr => hend _ a w hI (none_ready listed hsz hr), fun i hi => ?_⟩
    rw [mem_ready] at hi
    obtain ⟨h0, o, ho, hdep⟩ := hi
    have hlt : i < ops.size := (Array.getElem?_eq_some_iff.1 ho).1
    have hlt' : i < listed.size := by omega
    have hf : lis listed i = false := by simp [hlt'] at h0; simp [lis, hlt', h0]
    have hs := hstep (lis listed) a w i o hI ho hf hdep
    unfold wpOp
    simp only [ho]
    have hw : Region.wanted o (yielded ops a.tmps) = true := by simp [Region.wanted, hg i o ho]
    rw [if_pos hw]
    left
    refine Oper.wp_mono (fun a' w' h => ?_) hs
    refine ih _ a' w' (by simpa using hsz) ?_ (by rw [lis_set hlt']; exact h)
    rw [lis_set hlt']
    have := cnt_upd hf ops.size
    rw [if_pos hlt] at this
    omega

theorem region_inv {id : Nat} {a : Act} {w : World} (hm : P.follows .mixedOrders = true) (hg : ∀ (i : Nat) (o : Oper), ops[i]? = some o → o.guard = none) (hback : ∀ (i : Nat) (o : Oper), ops[i]? = some o → ∀ e ∈ o.after, Region.binds .any e = true → e.on < i) (I : (Nat → Bool) → Act → World → Prop)
    (hstep : ∀ (L : Nat → Bool) (a : Act) (w : World) (i : Nat) (o : Oper), I L a w → ops[i]? = some o → L i = false → (∀ e ∈ o.after, Region.binds .any e = true → L e.on = true) → o.wp P a w (fun a' w' => I (upd L i true) a' w') Q)
    (hend : ∀ (L : Nat → Bool) (a : Act) (w : World), I L a w → (∀ i, i < ops.size → L i = true) → Q .normal a w)
    (h0 : I (fun _ => false) a { w with drawn := w.drawn + 1 }) : (Code.region id ops true).wp P Q a w := by
  refine wp_region_any hm (wpAny_inv hg hback I hstep hend _ _ a _ (by simp) ?_ ?_)
  · exact cnt_le _ _
  · have : lis (Array.replicate ops.size false) = fun _ => false := by
      funext i
      simp [lis, Array.getElem?_replicate]
      split <;> rfl
    rw [this]
    exact h0
end
end Go.Proofs.Ytdbiphibdaghkaa
